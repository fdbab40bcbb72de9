/-
  The reference's Two: union, both, without. Condition: the slices lead to what they are said to.
-/
import Derived.Test.YtiolchdfjlffoaaDoorIG
namespace Go.Proofs.YtiolchdfjlffoaaDoor
open Go.RowKit Go.Lib Go.Joins

/-- Flags stored whole into a new block. -/
theorem store_flags (w : World) (t : TypeId) (z : Array Value) (g : Int → Bool) : FlagAt ((w.alloc (.cells z t)).setRow w.heap.size (flagV g)) w.heap.size t g := setRow_heap _ _ _ _ _ _ (heap_alloc_new _ _)
theorem store_below {n : Nat} {w w' : World} (h : Below n w w') (hn : n ≤ w'.heap.size) (t : TypeId) (z : Array Value) (g : Int → Bool) : Below n w ((w'.alloc (.cells z t)).setRow w'.heap.size (flagV g)) := below_setRow (h.alloc hn _) hn _
theorem FlagAt.set_other {w : World} {b b' i : Nat} {t : TypeId} {g : Int → Bool} (h : FlagAt w b t g) (hb : b ≠ b') (u : Value) : FlagAt (w.setCell ⟨b', i, none⟩ u) b t g := by
  unfold FlagAt
  rw [heap_setCell_other w _ _ _ hb]
  exact h
theorem setF_flS {k : Bool → Bool → Bool} {A B : List Sp} (hA : mayS A = true) (hB : mayS B = true) : setF (fun v => k (flS A v) (flS B v)) = putS k A B := by
  unfold putS flS
  rw [hA, hB]
  rfl

/-- What is kept, of this kind. -/
def orrK (a b : Bool) : Bool := a || b
set_option maxRecDepth 100000 in
set_option maxHeartbeats 16000000 in
theorem orr_calls {w : World} {va vb : Value} {A B : List Sp} (ha : SpIn w va A) (hb : SpIn w vb B) : Calls Tryd.prog 13 #[.int .i64 0, va, vb] w (SetOut (putS orrK A B) w) := by
  have HFA := Lib.hid (flags_calls ha)
  have HBI := Lib.hid hb
  obtain ⟨aa, ca, rfl, _⟩ := ha.form
  obtain ⟨ab, cb, rfl, _⟩ := hb.form
  obtain ⟨C, hC⟩ : ∃ C, putS orrK A B = C := ⟨_, rfl⟩
  rw [hC]
  have HC := Lib.hid hC
  obtain ⟨na, hna⟩ : ∃ n, A.length = n := ⟨_, rfl⟩
  obtain ⟨nb, hnb⟩ : ∃ n, B.length = n := ⟨_, rfl⟩
  rw [hna] at HFA ⊢
  rw [hnb] at HBI ⊢
  clear hC ha hb hna hnb
  unfold SetOut
  go_enter Tryd.func13, Tryd.ntmps13
  go_wp2_with fail
  with_reducible refine HFA.out.mono ?_
  rintro e w1 ⟨rfl, hb1⟩
  have HB1 := Lib.hid hb1
  clear hb1 HFA
  go_wp2_with (refine wpList_store_row rfl 48 (.tmp 7) (.tmp 16) rfl w1.heap.size (flagV (flS A)) rfl rfl 48 _ (heap_alloc_new _ _) (by rw [flagV_size]; exact info48) (by rw [zero48, flagV_size, flagV_size]) (flagV_one _) ?_)
  obtain ⟨W2, hW2⟩ : ∃ W, (w1.alloc (.cells Tryd.zeroCells48 48)).setRow w1.heap.size (flagV (flS A)) = W := ⟨_, rfl⟩
  rw [hW2]
  have HB2 : Hid (Below w.heap.size w W2) := Lib.hid (by rw [← hW2]; exact store_below HB1.out HB1.out.size _ _ _)
  have HA2 : Hid (FlagAt W2 w1.heap.size 48 (flS A)) := Lib.hid (by rw [← hW2]; exact store_flags _ _ _ _)
  have HZ1 : Hid (W2.heap.size = w1.heap.size + 1) := Lib.hid (by rw [← hW2, setRow_size]; simp)
  clear hW2
  obtain ⟨b7, hb7⟩ : ∃ b, w1.heap.size = b := ⟨_, rfl⟩
  have hbs := HB1.out.size
  rw [hb7] at HA2 HZ1 hbs ⊢
  have HFB := Lib.hid (flags_calls (HBI.out.below HB2.out))
  have HBS := Lib.hid hbs
  clear HB1 hb7 hbs HBI
  go_wp2_with fail
  with_reducible refine HFB.out.mono ?_
  rintro e w3 ⟨rfl, hb3⟩
  have HB3 : Hid (Below w.heap.size w w3) := Lib.hid (below_then HB2.out hb3)
  have HA3 := Lib.hid (HA2.out.below hb3)
  have HZ3 : Hid (b7 + 1 ≤ w3.heap.size) := Lib.hid (by have := hb3.size; rw [HZ1.out] at this; exact this)
  clear hb3 HFB HA2 HB2 HZ1
  cases hMA : mayS A with
  | false =>
    have HF : Hid (C = []) := Lib.hid (by rw [← HC.out, putS_none (by rw [hMA]; rfl)])
    clear hMA
    go_wp2_with (refine wpList_store_row rfl 48 (.tmp 9) (.tmp 21) rfl w3.heap.size (flagV (flS B)) rfl rfl 48 _ (heap_alloc_new _ _) (by rw [flagV_size]; exact info48) (by rw [zero48, flagV_size, flagV_size]) (flagV_one _) ?_)
    go_ret
    exact ⟨_, rfl, by rw [HF.out]; exact SpIn.nil _, store_below HB3.out HB3.out.size _ _ _⟩
  | true =>
  have HMA := Lib.hid hMA
  clear hMA
  cases hMB : mayS B with
  | false =>
    have HF : Hid (C = []) := Lib.hid (by rw [← HC.out, putS_none (by rw [hMB, Bool.and_false])])
    clear hMB
    go_wp2_with (refine wpList_store_row rfl 48 (.tmp 9) (.tmp 21) rfl w3.heap.size (flagV (flS B)) rfl rfl 48 _ (heap_alloc_new _ _) (by rw [flagV_size]; exact info48) (by rw [zero48, flagV_size, flagV_size]) (flagV_one _) ?_)
    go_ret
    exact ⟨_, rfl, by rw [HF.out]; exact SpIn.nil _, store_below HB3.out HB3.out.size _ _ _⟩
  | true =>
  have HMB := Lib.hid hMB
  clear hMB
  go_upto_region 3 with (refine wpList_store_row rfl 48 (.tmp 9) (.tmp 21) rfl w3.heap.size (flagV (flS B)) rfl rfl 48 _ (heap_alloc_new _ _) (by rw [flagV_size]; exact info48) (by rw [zero48, flagV_size, flagV_size]) (flagV_one _) ?_)
  obtain ⟨W4, hW4⟩ : ∃ W, (w3.alloc (.cells Tryd.zeroCells48 48)).setRow w3.heap.size (flagV (flS B)) = W := ⟨_, rfl⟩
  rw [hW4]
  have HB4 : Hid (Below w.heap.size w W4) := Lib.hid (by rw [← hW4]; exact store_below HB3.out HB3.out.size _ _ _)
  have HA4 : Hid (FlagAt W4 b7 48 (flS A)) := Lib.hid (by rw [← hW4]; exact HA3.out.below (store_below (Below.refl _ _) (Nat.le_refl _) _ _ _))
  have HY4 : Hid (FlagAt W4 w3.heap.size 48 (flS B)) := Lib.hid (by rw [← hW4]; exact store_flags _ _ _ _)
  have HZ4 : Hid (W4.heap.size = w3.heap.size + 1) := Lib.hid (by rw [← hW4, setRow_size]; simp)
  clear hW4 HA3 HB3
  obtain ⟨b9, hb9⟩ : ∃ b, w3.heap.size = b := ⟨_, rfl⟩
  rw [hb9] at HY4 HZ4 HZ3 ⊢
  clear hb9
  go_upto_region 6 with (fail)
  obtain ⟨W5, hW5⟩ : ∃ W, W4.alloc (.cells Tryd.zeroCells48 48) = W := ⟨_, rfl⟩
  rw [hW5]
  have HB5 : Hid (Below w.heap.size w W5) := Lib.hid (by rw [← hW5]; exact HB4.out.alloc HB4.out.size _)
  have HA5 : Hid (FlagAt W5 b7 48 (flS A)) := Lib.hid (by rw [← hW5]; exact HA4.out.below ((Below.refl _ _).alloc (Nat.le_refl _) _))
  have HY5 : Hid (FlagAt W5 b9 48 (flS B)) := Lib.hid (by rw [← hW5]; exact HY4.out.below ((Below.refl _ _).alloc (Nat.le_refl _) _))
  have HO5 : Hid (FlagAt W5 W4.heap.size 48 (fun _ => false)) := Lib.hid (by rw [← hW5, zero48]; exact heap_alloc_new _ _)
  obtain ⟨b11, hb11⟩ : ∃ b, W4.heap.size = b := ⟨_, rfl⟩
  have HS : Hid (w.heap.size ≤ b7 ∧ b7 < b9 ∧ b9 < b11) := Lib.hid (by
    have h1 := HZ3.out
    have h2 := HZ4.out
    have h3 := HBS.out
    rw [hb11] at h2
    exact ⟨h3, by omega, by omega⟩)
  rw [hb11] at HO5 ⊢
  clear hW5 hb11 HB4 HA4 HY4 HZ4 HZ3 HBS
  go_wp2_with fail
  go_loopg [12] 200 (fun g ix wr => ∃ (v : Nat), ix = .int .i64 (v : Int) ∧ g + v = 201 ∧ 1 ≤ v ∧ FlagAt wr b7 48 (flS A) ∧ FlagAt wr b9 48 (flS B) ∧ FlagAt wr b11 48 (fun z => decide (z < (v : Int)) && (decide (1 ≤ z) && orrK (flS A z) (flS B z))) ∧ Below w.heap.size w wr)
  case atStart => exact ⟨1, rfl, rfl, Nat.le_refl _, HA5.out, HY5.out, HO5.out.ext (fun z _ _ => by
    by_cases e : z < 1
    · rw [decide_eq_false (by omega : ¬ 1 ≤ z), Bool.false_and, Bool.and_false]
    · rw [decide_eq_false (by omega : ¬ z < ((1 : Nat) : Int)), Bool.false_and]), HB5.out⟩
  case round =>
    obtain ⟨v, rfl, hg, hv1, hfa, hfb, hfo, hb⟩ := hrel
    have HA2 := Lib.hid hfa
    have HB2 := Lib.hid hfb
    have HZ := Lib.hid hfo
    have HBI := Lib.hid hb
    clear hfa hfb hfo hb HA5 HY5 HO5 HB5
    cases gk with
    | zero =>
      obtain rfl : v = 201 := by omega
      obtain ⟨G, hG⟩ : ∃ G : Int → Bool, (fun z => decide (z < ((201 : Nat) : Int)) && (decide (1 ≤ z) && orrK (flS A z) (flS B z))) = G := ⟨_, rfl⟩
      rw [hG] at HZ
      have HSP := Lib.hid (spans_calls (w := wr) (G := G))
      have HGC : Hid (setF G = C) := Lib.hid (by
        rw [← HC.out, ← setF_flS HMA.out HMB.out, ← hG]
        refine setF_ext fun z h1 h2 => ?_
        rw [decide_eq_true (by omega : z < ((201 : Nat) : Int)), decide_eq_true h1]
        rfl)
      rw [HGC.out] at HSP
      clear hG
      go_upto_region 10 with (fail)
      go_wp2_with (refine wpList_load_row rfl 48 (.tmp 11) rfl b11 rfl 48 (flagV G) (0, 0) _ HZ.out Tryd.underlying48 rfl (by rw [flagV_size]; exact info48) ?_)
      with_reducible refine HSP.out.mono ?_
      rintro e w9 ⟨v9, rfl, hin, hb9⟩
      obtain ⟨a9, c9, rfl, _⟩ := hin.form
      have HIN := Lib.hid hin
      have HB9 := Lib.hid hb9
      obtain ⟨n9, hn9⟩ : ∃ n, C.length = n := ⟨_, rfl⟩
      rw [hn9] at HIN ⊢
      clear hin hb9 hn9
      go_wp2_with fail
      go_ret
      exact ⟨_, rfl, HIN.out, below_then HBI.out HB9.out⟩
    | succ g =>
      have hlt : (v : Int) ≤ 200 := by omega
      have hvn : v ≤ 200 := by omega
      have hv0 : (0 : Int) ≤ (v : Int) := by omega
      have hv201 : (v : Int) < 201 := by omega
      have hadd : IntKind.i64.wrap ((v : Int) + 1) = ((v + 1 : Nat) : Int) := IntWalk.i64_in _ (by omega)
      have x1 := HA2.out.cell hvn
      have y1 := HB2.out.cell hvn
      have z1 := HZ.out.cell hvn
      have z2 := HZ.out.frozen v
      obtain ⟨bx, hbx⟩ : ∃ b, flS A (v : Int) = b := ⟨_, rfl⟩
      obtain ⟨by', hby⟩ : ∃ b, flS B (v : Int) = b := ⟨_, rfl⟩
      obtain ⟨bz, hbz⟩ : ∃ b, (decide ((v : Int) < (v : Int)) && (decide (1 ≤ (v : Int)) && orrK (flS A (v : Int)) (flS B (v : Int)))) = b := ⟨_, rfl⟩
      rw [hbx] at x1
      rw [hby] at y1
      rw [hbz] at z1
      have HX := Lib.hid hbx
      have HY := Lib.hid hby
      clear hbx hby hbz
      rcases bx with _ | _ <;> rcases by' with _ | _
      · have HN : Hid (FlagAt (wr.setCell ⟨b11, v, none⟩ (.bool false)) b11 48 (fun z => decide (z < ((v + 1 : Nat) : Int)) && (decide (1 ≤ z) && orrK (flS A z) (flS B z)))) := Lib.hid ((HZ.out.put v false).ext (fun z _ _ => by
          by_cases e : z = (v : Int)
          · rw [if_pos e, e, HX.out, HY.out, decide_eq_true (by omega : (v : Int) < ((v + 1 : Nat) : Int)), decide_eq_true (by omega : 1 ≤ (v : Int))]
            rfl
          · rw [if_neg e]
            congr 1
            rw [decide_eq_decide]
            omega))
        go_wp2_with fail
        go_roundg g
        case measure => omega
        case rel => exact ⟨v + 1, by go_num, by omega, by omega, HA2.out.set_other (by have := HS.out; omega) _, HB2.out.set_other (by have := HS.out; omega) _, HN.out, HBI.out.setCell (by show w.heap.size ≤ b11; have := HS.out; omega) _⟩
      · have HN : Hid (FlagAt (wr.setCell ⟨b11, v, none⟩ (.bool true)) b11 48 (fun z => decide (z < ((v + 1 : Nat) : Int)) && (decide (1 ≤ z) && orrK (flS A z) (flS B z)))) := Lib.hid ((HZ.out.put v true).ext (fun z _ _ => by
          by_cases e : z = (v : Int)
          · rw [if_pos e, e, HX.out, HY.out, decide_eq_true (by omega : (v : Int) < ((v + 1 : Nat) : Int)), decide_eq_true (by omega : 1 ≤ (v : Int))]
            rfl
          · rw [if_neg e]
            congr 1
            rw [decide_eq_decide]
            omega))
        go_wp2_with fail
        go_roundg g
        case measure => omega
        case rel => exact ⟨v + 1, by go_num, by omega, by omega, HA2.out.set_other (by have := HS.out; omega) _, HB2.out.set_other (by have := HS.out; omega) _, HN.out, HBI.out.setCell (by show w.heap.size ≤ b11; have := HS.out; omega) _⟩
      · have HN : Hid (FlagAt (wr.setCell ⟨b11, v, none⟩ (.bool true)) b11 48 (fun z => decide (z < ((v + 1 : Nat) : Int)) && (decide (1 ≤ z) && orrK (flS A z) (flS B z)))) := Lib.hid ((HZ.out.put v true).ext (fun z _ _ => by
          by_cases e : z = (v : Int)
          · rw [if_pos e, e, HX.out, HY.out, decide_eq_true (by omega : (v : Int) < ((v + 1 : Nat) : Int)), decide_eq_true (by omega : 1 ≤ (v : Int))]
            rfl
          · rw [if_neg e]
            congr 1
            rw [decide_eq_decide]
            omega))
        go_wp2_with fail
        go_roundg g
        case measure => omega
        case rel => exact ⟨v + 1, by go_num, by omega, by omega, HA2.out.set_other (by have := HS.out; omega) _, HB2.out.set_other (by have := HS.out; omega) _, HN.out, HBI.out.setCell (by show w.heap.size ≤ b11; have := HS.out; omega) _⟩
      · have HN : Hid (FlagAt (wr.setCell ⟨b11, v, none⟩ (.bool true)) b11 48 (fun z => decide (z < ((v + 1 : Nat) : Int)) && (decide (1 ≤ z) && orrK (flS A z) (flS B z)))) := Lib.hid ((HZ.out.put v true).ext (fun z _ _ => by
          by_cases e : z = (v : Int)
          · rw [if_pos e, e, HX.out, HY.out, decide_eq_true (by omega : (v : Int) < ((v + 1 : Nat) : Int)), decide_eq_true (by omega : 1 ≤ (v : Int))]
            rfl
          · rw [if_neg e]
            congr 1
            rw [decide_eq_decide]
            omega))
        go_wp2_with fail
        go_roundg g
        case measure => omega
        case rel => exact ⟨v + 1, by go_num, by omega, by omega, HA2.out.set_other (by have := HS.out; omega) _, HB2.out.set_other (by have := HS.out; omega) _, HN.out, HBI.out.setCell (by show w.heap.size ≤ b11; have := HS.out; omega) _⟩

/-- What is kept, of this kind. -/
def annK (a b : Bool) : Bool := a && b
set_option maxRecDepth 100000 in
set_option maxHeartbeats 16000000 in
theorem ann_calls {w : World} {va vb : Value} {A B : List Sp} (ha : SpIn w va A) (hb : SpIn w vb B) : Calls Tryd.prog 13 #[.int .i64 1, va, vb] w (SetOut (putS annK A B) w) := by
  have HFA := Lib.hid (flags_calls ha)
  have HBI := Lib.hid hb
  obtain ⟨aa, ca, rfl, _⟩ := ha.form
  obtain ⟨ab, cb, rfl, _⟩ := hb.form
  obtain ⟨C, hC⟩ : ∃ C, putS annK A B = C := ⟨_, rfl⟩
  rw [hC]
  have HC := Lib.hid hC
  obtain ⟨na, hna⟩ : ∃ n, A.length = n := ⟨_, rfl⟩
  obtain ⟨nb, hnb⟩ : ∃ n, B.length = n := ⟨_, rfl⟩
  rw [hna] at HFA ⊢
  rw [hnb] at HBI ⊢
  clear hC ha hb hna hnb
  unfold SetOut
  go_enter Tryd.func13, Tryd.ntmps13
  go_wp2_with fail
  with_reducible refine HFA.out.mono ?_
  rintro e w1 ⟨rfl, hb1⟩
  have HB1 := Lib.hid hb1
  clear hb1 HFA
  go_wp2_with (refine wpList_store_row rfl 48 (.tmp 7) (.tmp 16) rfl w1.heap.size (flagV (flS A)) rfl rfl 48 _ (heap_alloc_new _ _) (by rw [flagV_size]; exact info48) (by rw [zero48, flagV_size, flagV_size]) (flagV_one _) ?_)
  obtain ⟨W2, hW2⟩ : ∃ W, (w1.alloc (.cells Tryd.zeroCells48 48)).setRow w1.heap.size (flagV (flS A)) = W := ⟨_, rfl⟩
  rw [hW2]
  have HB2 : Hid (Below w.heap.size w W2) := Lib.hid (by rw [← hW2]; exact store_below HB1.out HB1.out.size _ _ _)
  have HA2 : Hid (FlagAt W2 w1.heap.size 48 (flS A)) := Lib.hid (by rw [← hW2]; exact store_flags _ _ _ _)
  have HZ1 : Hid (W2.heap.size = w1.heap.size + 1) := Lib.hid (by rw [← hW2, setRow_size]; simp)
  clear hW2
  obtain ⟨b7, hb7⟩ : ∃ b, w1.heap.size = b := ⟨_, rfl⟩
  have hbs := HB1.out.size
  rw [hb7] at HA2 HZ1 hbs ⊢
  have HFB := Lib.hid (flags_calls (HBI.out.below HB2.out))
  have HBS := Lib.hid hbs
  clear HB1 hb7 hbs HBI
  go_wp2_with fail
  with_reducible refine HFB.out.mono ?_
  rintro e w3 ⟨rfl, hb3⟩
  have HB3 : Hid (Below w.heap.size w w3) := Lib.hid (below_then HB2.out hb3)
  have HA3 := Lib.hid (HA2.out.below hb3)
  have HZ3 : Hid (b7 + 1 ≤ w3.heap.size) := Lib.hid (by have := hb3.size; rw [HZ1.out] at this; exact this)
  clear hb3 HFB HA2 HB2 HZ1
  cases hMA : mayS A with
  | false =>
    have HF : Hid (C = []) := Lib.hid (by rw [← HC.out, putS_none (by rw [hMA]; rfl)])
    clear hMA
    go_wp2_with (refine wpList_store_row rfl 48 (.tmp 9) (.tmp 21) rfl w3.heap.size (flagV (flS B)) rfl rfl 48 _ (heap_alloc_new _ _) (by rw [flagV_size]; exact info48) (by rw [zero48, flagV_size, flagV_size]) (flagV_one _) ?_)
    go_ret
    exact ⟨_, rfl, by rw [HF.out]; exact SpIn.nil _, store_below HB3.out HB3.out.size _ _ _⟩
  | true =>
  have HMA := Lib.hid hMA
  clear hMA
  cases hMB : mayS B with
  | false =>
    have HF : Hid (C = []) := Lib.hid (by rw [← HC.out, putS_none (by rw [hMB, Bool.and_false])])
    clear hMB
    go_wp2_with (refine wpList_store_row rfl 48 (.tmp 9) (.tmp 21) rfl w3.heap.size (flagV (flS B)) rfl rfl 48 _ (heap_alloc_new _ _) (by rw [flagV_size]; exact info48) (by rw [zero48, flagV_size, flagV_size]) (flagV_one _) ?_)
    go_ret
    exact ⟨_, rfl, by rw [HF.out]; exact SpIn.nil _, store_below HB3.out HB3.out.size _ _ _⟩
  | true =>
  have HMB := Lib.hid hMB
  clear hMB
  go_upto_region 3 with (refine wpList_store_row rfl 48 (.tmp 9) (.tmp 21) rfl w3.heap.size (flagV (flS B)) rfl rfl 48 _ (heap_alloc_new _ _) (by rw [flagV_size]; exact info48) (by rw [zero48, flagV_size, flagV_size]) (flagV_one _) ?_)
  obtain ⟨W4, hW4⟩ : ∃ W, (w3.alloc (.cells Tryd.zeroCells48 48)).setRow w3.heap.size (flagV (flS B)) = W := ⟨_, rfl⟩
  rw [hW4]
  have HB4 : Hid (Below w.heap.size w W4) := Lib.hid (by rw [← hW4]; exact store_below HB3.out HB3.out.size _ _ _)
  have HA4 : Hid (FlagAt W4 b7 48 (flS A)) := Lib.hid (by rw [← hW4]; exact HA3.out.below (store_below (Below.refl _ _) (Nat.le_refl _) _ _ _))
  have HY4 : Hid (FlagAt W4 w3.heap.size 48 (flS B)) := Lib.hid (by rw [← hW4]; exact store_flags _ _ _ _)
  have HZ4 : Hid (W4.heap.size = w3.heap.size + 1) := Lib.hid (by rw [← hW4, setRow_size]; simp)
  clear hW4 HA3 HB3
  obtain ⟨b9, hb9⟩ : ∃ b, w3.heap.size = b := ⟨_, rfl⟩
  rw [hb9] at HY4 HZ4 HZ3 ⊢
  clear hb9
  go_upto_region 6 with (fail)
  obtain ⟨W5, hW5⟩ : ∃ W, W4.alloc (.cells Tryd.zeroCells48 48) = W := ⟨_, rfl⟩
  rw [hW5]
  have HB5 : Hid (Below w.heap.size w W5) := Lib.hid (by rw [← hW5]; exact HB4.out.alloc HB4.out.size _)
  have HA5 : Hid (FlagAt W5 b7 48 (flS A)) := Lib.hid (by rw [← hW5]; exact HA4.out.below ((Below.refl _ _).alloc (Nat.le_refl _) _))
  have HY5 : Hid (FlagAt W5 b9 48 (flS B)) := Lib.hid (by rw [← hW5]; exact HY4.out.below ((Below.refl _ _).alloc (Nat.le_refl _) _))
  have HO5 : Hid (FlagAt W5 W4.heap.size 48 (fun _ => false)) := Lib.hid (by rw [← hW5, zero48]; exact heap_alloc_new _ _)
  obtain ⟨b11, hb11⟩ : ∃ b, W4.heap.size = b := ⟨_, rfl⟩
  have HS : Hid (w.heap.size ≤ b7 ∧ b7 < b9 ∧ b9 < b11) := Lib.hid (by
    have h1 := HZ3.out
    have h2 := HZ4.out
    have h3 := HBS.out
    rw [hb11] at h2
    exact ⟨h3, by omega, by omega⟩)
  rw [hb11] at HO5 ⊢
  clear hW5 hb11 HB4 HA4 HY4 HZ4 HZ3 HBS
  go_wp2_with fail
  go_loopg [12] 200 (fun g ix wr => ∃ (v : Nat), ix = .int .i64 (v : Int) ∧ g + v = 201 ∧ 1 ≤ v ∧ FlagAt wr b7 48 (flS A) ∧ FlagAt wr b9 48 (flS B) ∧ FlagAt wr b11 48 (fun z => decide (z < (v : Int)) && (decide (1 ≤ z) && annK (flS A z) (flS B z))) ∧ Below w.heap.size w wr)
  case atStart => exact ⟨1, rfl, rfl, Nat.le_refl _, HA5.out, HY5.out, HO5.out.ext (fun z _ _ => by
    by_cases e : z < 1
    · rw [decide_eq_false (by omega : ¬ 1 ≤ z), Bool.false_and, Bool.and_false]
    · rw [decide_eq_false (by omega : ¬ z < ((1 : Nat) : Int)), Bool.false_and]), HB5.out⟩
  case round =>
    obtain ⟨v, rfl, hg, hv1, hfa, hfb, hfo, hb⟩ := hrel
    have HA2 := Lib.hid hfa
    have HB2 := Lib.hid hfb
    have HZ := Lib.hid hfo
    have HBI := Lib.hid hb
    clear hfa hfb hfo hb HA5 HY5 HO5 HB5
    cases gk with
    | zero =>
      obtain rfl : v = 201 := by omega
      obtain ⟨G, hG⟩ : ∃ G : Int → Bool, (fun z => decide (z < ((201 : Nat) : Int)) && (decide (1 ≤ z) && annK (flS A z) (flS B z))) = G := ⟨_, rfl⟩
      rw [hG] at HZ
      have HSP := Lib.hid (spans_calls (w := wr) (G := G))
      have HGC : Hid (setF G = C) := Lib.hid (by
        rw [← HC.out, ← setF_flS HMA.out HMB.out, ← hG]
        refine setF_ext fun z h1 h2 => ?_
        rw [decide_eq_true (by omega : z < ((201 : Nat) : Int)), decide_eq_true h1]
        rfl)
      rw [HGC.out] at HSP
      clear hG
      go_upto_region 10 with (fail)
      go_wp2_with (refine wpList_load_row rfl 48 (.tmp 11) rfl b11 rfl 48 (flagV G) (0, 0) _ HZ.out Tryd.underlying48 rfl (by rw [flagV_size]; exact info48) ?_)
      with_reducible refine HSP.out.mono ?_
      rintro e w9 ⟨v9, rfl, hin, hb9⟩
      obtain ⟨a9, c9, rfl, _⟩ := hin.form
      have HIN := Lib.hid hin
      have HB9 := Lib.hid hb9
      obtain ⟨n9, hn9⟩ : ∃ n, C.length = n := ⟨_, rfl⟩
      rw [hn9] at HIN ⊢
      clear hin hb9 hn9
      go_wp2_with fail
      go_ret
      exact ⟨_, rfl, HIN.out, below_then HBI.out HB9.out⟩
    | succ g =>
      have hlt : (v : Int) ≤ 200 := by omega
      have hvn : v ≤ 200 := by omega
      have hv0 : (0 : Int) ≤ (v : Int) := by omega
      have hv201 : (v : Int) < 201 := by omega
      have hadd : IntKind.i64.wrap ((v : Int) + 1) = ((v + 1 : Nat) : Int) := IntWalk.i64_in _ (by omega)
      have x1 := HA2.out.cell hvn
      have y1 := HB2.out.cell hvn
      have z1 := HZ.out.cell hvn
      have z2 := HZ.out.frozen v
      obtain ⟨bx, hbx⟩ : ∃ b, flS A (v : Int) = b := ⟨_, rfl⟩
      obtain ⟨by', hby⟩ : ∃ b, flS B (v : Int) = b := ⟨_, rfl⟩
      obtain ⟨bz, hbz⟩ : ∃ b, (decide ((v : Int) < (v : Int)) && (decide (1 ≤ (v : Int)) && annK (flS A (v : Int)) (flS B (v : Int)))) = b := ⟨_, rfl⟩
      rw [hbx] at x1
      rw [hby] at y1
      rw [hbz] at z1
      have HX := Lib.hid hbx
      have HY := Lib.hid hby
      clear hbx hby hbz
      rcases bx with _ | _ <;> rcases by' with _ | _
      · have HN : Hid (FlagAt (wr.setCell ⟨b11, v, none⟩ (.bool false)) b11 48 (fun z => decide (z < ((v + 1 : Nat) : Int)) && (decide (1 ≤ z) && annK (flS A z) (flS B z)))) := Lib.hid ((HZ.out.put v false).ext (fun z _ _ => by
          by_cases e : z = (v : Int)
          · rw [if_pos e, e, HX.out, HY.out, decide_eq_true (by omega : (v : Int) < ((v + 1 : Nat) : Int)), decide_eq_true (by omega : 1 ≤ (v : Int))]
            rfl
          · rw [if_neg e]
            congr 1
            rw [decide_eq_decide]
            omega))
        go_wp2_with fail
        go_roundg g
        case measure => omega
        case rel => exact ⟨v + 1, by go_num, by omega, by omega, HA2.out.set_other (by have := HS.out; omega) _, HB2.out.set_other (by have := HS.out; omega) _, HN.out, HBI.out.setCell (by show w.heap.size ≤ b11; have := HS.out; omega) _⟩
      · have HN : Hid (FlagAt (wr.setCell ⟨b11, v, none⟩ (.bool false)) b11 48 (fun z => decide (z < ((v + 1 : Nat) : Int)) && (decide (1 ≤ z) && annK (flS A z) (flS B z)))) := Lib.hid ((HZ.out.put v false).ext (fun z _ _ => by
          by_cases e : z = (v : Int)
          · rw [if_pos e, e, HX.out, HY.out, decide_eq_true (by omega : (v : Int) < ((v + 1 : Nat) : Int)), decide_eq_true (by omega : 1 ≤ (v : Int))]
            rfl
          · rw [if_neg e]
            congr 1
            rw [decide_eq_decide]
            omega))
        go_wp2_with fail
        go_roundg g
        case measure => omega
        case rel => exact ⟨v + 1, by go_num, by omega, by omega, HA2.out.set_other (by have := HS.out; omega) _, HB2.out.set_other (by have := HS.out; omega) _, HN.out, HBI.out.setCell (by show w.heap.size ≤ b11; have := HS.out; omega) _⟩
      · have HN : Hid (FlagAt (wr.setCell ⟨b11, v, none⟩ (.bool false)) b11 48 (fun z => decide (z < ((v + 1 : Nat) : Int)) && (decide (1 ≤ z) && annK (flS A z) (flS B z)))) := Lib.hid ((HZ.out.put v false).ext (fun z _ _ => by
          by_cases e : z = (v : Int)
          · rw [if_pos e, e, HX.out, HY.out, decide_eq_true (by omega : (v : Int) < ((v + 1 : Nat) : Int)), decide_eq_true (by omega : 1 ≤ (v : Int))]
            rfl
          · rw [if_neg e]
            congr 1
            rw [decide_eq_decide]
            omega))
        go_wp2_with fail
        go_roundg g
        case measure => omega
        case rel => exact ⟨v + 1, by go_num, by omega, by omega, HA2.out.set_other (by have := HS.out; omega) _, HB2.out.set_other (by have := HS.out; omega) _, HN.out, HBI.out.setCell (by show w.heap.size ≤ b11; have := HS.out; omega) _⟩
      · have HN : Hid (FlagAt (wr.setCell ⟨b11, v, none⟩ (.bool true)) b11 48 (fun z => decide (z < ((v + 1 : Nat) : Int)) && (decide (1 ≤ z) && annK (flS A z) (flS B z)))) := Lib.hid ((HZ.out.put v true).ext (fun z _ _ => by
          by_cases e : z = (v : Int)
          · rw [if_pos e, e, HX.out, HY.out, decide_eq_true (by omega : (v : Int) < ((v + 1 : Nat) : Int)), decide_eq_true (by omega : 1 ≤ (v : Int))]
            rfl
          · rw [if_neg e]
            congr 1
            rw [decide_eq_decide]
            omega))
        go_wp2_with fail
        go_roundg g
        case measure => omega
        case rel => exact ⟨v + 1, by go_num, by omega, by omega, HA2.out.set_other (by have := HS.out; omega) _, HB2.out.set_other (by have := HS.out; omega) _, HN.out, HBI.out.setCell (by show w.heap.size ≤ b11; have := HS.out; omega) _⟩

/-- What is kept, of this kind. -/
def witK (a b : Bool) : Bool := a && !b
set_option maxRecDepth 100000 in
set_option maxHeartbeats 16000000 in
theorem wit_calls {w : World} {va vb : Value} {A B : List Sp} (ha : SpIn w va A) (hb : SpIn w vb B) : Calls Tryd.prog 13 #[.int .i64 2, va, vb] w (SetOut (putS witK A B) w) := by
  have HFA := Lib.hid (flags_calls ha)
  have HBI := Lib.hid hb
  obtain ⟨aa, ca, rfl, _⟩ := ha.form
  obtain ⟨ab, cb, rfl, _⟩ := hb.form
  obtain ⟨C, hC⟩ : ∃ C, putS witK A B = C := ⟨_, rfl⟩
  rw [hC]
  have HC := Lib.hid hC
  obtain ⟨na, hna⟩ : ∃ n, A.length = n := ⟨_, rfl⟩
  obtain ⟨nb, hnb⟩ : ∃ n, B.length = n := ⟨_, rfl⟩
  rw [hna] at HFA ⊢
  rw [hnb] at HBI ⊢
  clear hC ha hb hna hnb
  unfold SetOut
  go_enter Tryd.func13, Tryd.ntmps13
  go_wp2_with fail
  with_reducible refine HFA.out.mono ?_
  rintro e w1 ⟨rfl, hb1⟩
  have HB1 := Lib.hid hb1
  clear hb1 HFA
  go_wp2_with (refine wpList_store_row rfl 48 (.tmp 7) (.tmp 16) rfl w1.heap.size (flagV (flS A)) rfl rfl 48 _ (heap_alloc_new _ _) (by rw [flagV_size]; exact info48) (by rw [zero48, flagV_size, flagV_size]) (flagV_one _) ?_)
  obtain ⟨W2, hW2⟩ : ∃ W, (w1.alloc (.cells Tryd.zeroCells48 48)).setRow w1.heap.size (flagV (flS A)) = W := ⟨_, rfl⟩
  rw [hW2]
  have HB2 : Hid (Below w.heap.size w W2) := Lib.hid (by rw [← hW2]; exact store_below HB1.out HB1.out.size _ _ _)
  have HA2 : Hid (FlagAt W2 w1.heap.size 48 (flS A)) := Lib.hid (by rw [← hW2]; exact store_flags _ _ _ _)
  have HZ1 : Hid (W2.heap.size = w1.heap.size + 1) := Lib.hid (by rw [← hW2, setRow_size]; simp)
  clear hW2
  obtain ⟨b7, hb7⟩ : ∃ b, w1.heap.size = b := ⟨_, rfl⟩
  have hbs := HB1.out.size
  rw [hb7] at HA2 HZ1 hbs ⊢
  have HFB := Lib.hid (flags_calls (HBI.out.below HB2.out))
  have HBS := Lib.hid hbs
  clear HB1 hb7 hbs HBI
  go_wp2_with fail
  with_reducible refine HFB.out.mono ?_
  rintro e w3 ⟨rfl, hb3⟩
  have HB3 : Hid (Below w.heap.size w w3) := Lib.hid (below_then HB2.out hb3)
  have HA3 := Lib.hid (HA2.out.below hb3)
  have HZ3 : Hid (b7 + 1 ≤ w3.heap.size) := Lib.hid (by have := hb3.size; rw [HZ1.out] at this; exact this)
  clear hb3 HFB HA2 HB2 HZ1
  cases hMA : mayS A with
  | false =>
    have HF : Hid (C = []) := Lib.hid (by rw [← HC.out, putS_none (by rw [hMA]; rfl)])
    clear hMA
    go_wp2_with (refine wpList_store_row rfl 48 (.tmp 9) (.tmp 21) rfl w3.heap.size (flagV (flS B)) rfl rfl 48 _ (heap_alloc_new _ _) (by rw [flagV_size]; exact info48) (by rw [zero48, flagV_size, flagV_size]) (flagV_one _) ?_)
    go_ret
    exact ⟨_, rfl, by rw [HF.out]; exact SpIn.nil _, store_below HB3.out HB3.out.size _ _ _⟩
  | true =>
  have HMA := Lib.hid hMA
  clear hMA
  cases hMB : mayS B with
  | false =>
    have HF : Hid (C = []) := Lib.hid (by rw [← HC.out, putS_none (by rw [hMB, Bool.and_false])])
    clear hMB
    go_wp2_with (refine wpList_store_row rfl 48 (.tmp 9) (.tmp 21) rfl w3.heap.size (flagV (flS B)) rfl rfl 48 _ (heap_alloc_new _ _) (by rw [flagV_size]; exact info48) (by rw [zero48, flagV_size, flagV_size]) (flagV_one _) ?_)
    go_ret
    exact ⟨_, rfl, by rw [HF.out]; exact SpIn.nil _, store_below HB3.out HB3.out.size _ _ _⟩
  | true =>
  have HMB := Lib.hid hMB
  clear hMB
  go_upto_region 3 with (refine wpList_store_row rfl 48 (.tmp 9) (.tmp 21) rfl w3.heap.size (flagV (flS B)) rfl rfl 48 _ (heap_alloc_new _ _) (by rw [flagV_size]; exact info48) (by rw [zero48, flagV_size, flagV_size]) (flagV_one _) ?_)
  obtain ⟨W4, hW4⟩ : ∃ W, (w3.alloc (.cells Tryd.zeroCells48 48)).setRow w3.heap.size (flagV (flS B)) = W := ⟨_, rfl⟩
  rw [hW4]
  have HB4 : Hid (Below w.heap.size w W4) := Lib.hid (by rw [← hW4]; exact store_below HB3.out HB3.out.size _ _ _)
  have HA4 : Hid (FlagAt W4 b7 48 (flS A)) := Lib.hid (by rw [← hW4]; exact HA3.out.below (store_below (Below.refl _ _) (Nat.le_refl _) _ _ _))
  have HY4 : Hid (FlagAt W4 w3.heap.size 48 (flS B)) := Lib.hid (by rw [← hW4]; exact store_flags _ _ _ _)
  have HZ4 : Hid (W4.heap.size = w3.heap.size + 1) := Lib.hid (by rw [← hW4, setRow_size]; simp)
  clear hW4 HA3 HB3
  obtain ⟨b9, hb9⟩ : ∃ b, w3.heap.size = b := ⟨_, rfl⟩
  rw [hb9] at HY4 HZ4 HZ3 ⊢
  clear hb9
  go_upto_region 6 with (fail)
  obtain ⟨W5, hW5⟩ : ∃ W, W4.alloc (.cells Tryd.zeroCells48 48) = W := ⟨_, rfl⟩
  rw [hW5]
  have HB5 : Hid (Below w.heap.size w W5) := Lib.hid (by rw [← hW5]; exact HB4.out.alloc HB4.out.size _)
  have HA5 : Hid (FlagAt W5 b7 48 (flS A)) := Lib.hid (by rw [← hW5]; exact HA4.out.below ((Below.refl _ _).alloc (Nat.le_refl _) _))
  have HY5 : Hid (FlagAt W5 b9 48 (flS B)) := Lib.hid (by rw [← hW5]; exact HY4.out.below ((Below.refl _ _).alloc (Nat.le_refl _) _))
  have HO5 : Hid (FlagAt W5 W4.heap.size 48 (fun _ => false)) := Lib.hid (by rw [← hW5, zero48]; exact heap_alloc_new _ _)
  obtain ⟨b11, hb11⟩ : ∃ b, W4.heap.size = b := ⟨_, rfl⟩
  have HS : Hid (w.heap.size ≤ b7 ∧ b7 < b9 ∧ b9 < b11) := Lib.hid (by
    have h1 := HZ3.out
    have h2 := HZ4.out
    have h3 := HBS.out
    rw [hb11] at h2
    exact ⟨h3, by omega, by omega⟩)
  rw [hb11] at HO5 ⊢
  clear hW5 hb11 HB4 HA4 HY4 HZ4 HZ3 HBS
  go_wp2_with fail
  go_loopg [12] 200 (fun g ix wr => ∃ (v : Nat), ix = .int .i64 (v : Int) ∧ g + v = 201 ∧ 1 ≤ v ∧ FlagAt wr b7 48 (flS A) ∧ FlagAt wr b9 48 (flS B) ∧ FlagAt wr b11 48 (fun z => decide (z < (v : Int)) && (decide (1 ≤ z) && witK (flS A z) (flS B z))) ∧ Below w.heap.size w wr)
  case atStart => exact ⟨1, rfl, rfl, Nat.le_refl _, HA5.out, HY5.out, HO5.out.ext (fun z _ _ => by
    by_cases e : z < 1
    · rw [decide_eq_false (by omega : ¬ 1 ≤ z), Bool.false_and, Bool.and_false]
    · rw [decide_eq_false (by omega : ¬ z < ((1 : Nat) : Int)), Bool.false_and]), HB5.out⟩
  case round =>
    obtain ⟨v, rfl, hg, hv1, hfa, hfb, hfo, hb⟩ := hrel
    have HA2 := Lib.hid hfa
    have HB2 := Lib.hid hfb
    have HZ := Lib.hid hfo
    have HBI := Lib.hid hb
    clear hfa hfb hfo hb HA5 HY5 HO5 HB5
    cases gk with
    | zero =>
      obtain rfl : v = 201 := by omega
      obtain ⟨G, hG⟩ : ∃ G : Int → Bool, (fun z => decide (z < ((201 : Nat) : Int)) && (decide (1 ≤ z) && witK (flS A z) (flS B z))) = G := ⟨_, rfl⟩
      rw [hG] at HZ
      have HSP := Lib.hid (spans_calls (w := wr) (G := G))
      have HGC : Hid (setF G = C) := Lib.hid (by
        rw [← HC.out, ← setF_flS HMA.out HMB.out, ← hG]
        refine setF_ext fun z h1 h2 => ?_
        rw [decide_eq_true (by omega : z < ((201 : Nat) : Int)), decide_eq_true h1]
        rfl)
      rw [HGC.out] at HSP
      clear hG
      go_upto_region 10 with (fail)
      go_wp2_with (refine wpList_load_row rfl 48 (.tmp 11) rfl b11 rfl 48 (flagV G) (0, 0) _ HZ.out Tryd.underlying48 rfl (by rw [flagV_size]; exact info48) ?_)
      with_reducible refine HSP.out.mono ?_
      rintro e w9 ⟨v9, rfl, hin, hb9⟩
      obtain ⟨a9, c9, rfl, _⟩ := hin.form
      have HIN := Lib.hid hin
      have HB9 := Lib.hid hb9
      obtain ⟨n9, hn9⟩ : ∃ n, C.length = n := ⟨_, rfl⟩
      rw [hn9] at HIN ⊢
      clear hin hb9 hn9
      go_wp2_with fail
      go_ret
      exact ⟨_, rfl, HIN.out, below_then HBI.out HB9.out⟩
    | succ g =>
      have hlt : (v : Int) ≤ 200 := by omega
      have hvn : v ≤ 200 := by omega
      have hv0 : (0 : Int) ≤ (v : Int) := by omega
      have hv201 : (v : Int) < 201 := by omega
      have hadd : IntKind.i64.wrap ((v : Int) + 1) = ((v + 1 : Nat) : Int) := IntWalk.i64_in _ (by omega)
      have x1 := HA2.out.cell hvn
      have y1 := HB2.out.cell hvn
      have z1 := HZ.out.cell hvn
      have z2 := HZ.out.frozen v
      obtain ⟨bx, hbx⟩ : ∃ b, flS A (v : Int) = b := ⟨_, rfl⟩
      obtain ⟨by', hby⟩ : ∃ b, flS B (v : Int) = b := ⟨_, rfl⟩
      obtain ⟨bz, hbz⟩ : ∃ b, (decide ((v : Int) < (v : Int)) && (decide (1 ≤ (v : Int)) && witK (flS A (v : Int)) (flS B (v : Int)))) = b := ⟨_, rfl⟩
      rw [hbx] at x1
      rw [hby] at y1
      rw [hbz] at z1
      have HX := Lib.hid hbx
      have HY := Lib.hid hby
      clear hbx hby hbz
      rcases bx with _ | _ <;> rcases by' with _ | _
      · have HN : Hid (FlagAt (wr.setCell ⟨b11, v, none⟩ (.bool false)) b11 48 (fun z => decide (z < ((v + 1 : Nat) : Int)) && (decide (1 ≤ z) && witK (flS A z) (flS B z)))) := Lib.hid ((HZ.out.put v false).ext (fun z _ _ => by
          by_cases e : z = (v : Int)
          · rw [if_pos e, e, HX.out, HY.out, decide_eq_true (by omega : (v : Int) < ((v + 1 : Nat) : Int)), decide_eq_true (by omega : 1 ≤ (v : Int))]
            rfl
          · rw [if_neg e]
            congr 1
            rw [decide_eq_decide]
            omega))
        go_wp2_with fail
        go_roundg g
        case measure => omega
        case rel => exact ⟨v + 1, by go_num, by omega, by omega, HA2.out.set_other (by have := HS.out; omega) _, HB2.out.set_other (by have := HS.out; omega) _, HN.out, HBI.out.setCell (by show w.heap.size ≤ b11; have := HS.out; omega) _⟩
      · have HN : Hid (FlagAt (wr.setCell ⟨b11, v, none⟩ (.bool false)) b11 48 (fun z => decide (z < ((v + 1 : Nat) : Int)) && (decide (1 ≤ z) && witK (flS A z) (flS B z)))) := Lib.hid ((HZ.out.put v false).ext (fun z _ _ => by
          by_cases e : z = (v : Int)
          · rw [if_pos e, e, HX.out, HY.out, decide_eq_true (by omega : (v : Int) < ((v + 1 : Nat) : Int)), decide_eq_true (by omega : 1 ≤ (v : Int))]
            rfl
          · rw [if_neg e]
            congr 1
            rw [decide_eq_decide]
            omega))
        go_wp2_with fail
        go_roundg g
        case measure => omega
        case rel => exact ⟨v + 1, by go_num, by omega, by omega, HA2.out.set_other (by have := HS.out; omega) _, HB2.out.set_other (by have := HS.out; omega) _, HN.out, HBI.out.setCell (by show w.heap.size ≤ b11; have := HS.out; omega) _⟩
      · have HN : Hid (FlagAt (wr.setCell ⟨b11, v, none⟩ (.bool true)) b11 48 (fun z => decide (z < ((v + 1 : Nat) : Int)) && (decide (1 ≤ z) && witK (flS A z) (flS B z)))) := Lib.hid ((HZ.out.put v true).ext (fun z _ _ => by
          by_cases e : z = (v : Int)
          · rw [if_pos e, e, HX.out, HY.out, decide_eq_true (by omega : (v : Int) < ((v + 1 : Nat) : Int)), decide_eq_true (by omega : 1 ≤ (v : Int))]
            rfl
          · rw [if_neg e]
            congr 1
            rw [decide_eq_decide]
            omega))
        go_wp2_with fail
        go_roundg g
        case measure => omega
        case rel => exact ⟨v + 1, by go_num, by omega, by omega, HA2.out.set_other (by have := HS.out; omega) _, HB2.out.set_other (by have := HS.out; omega) _, HN.out, HBI.out.setCell (by show w.heap.size ≤ b11; have := HS.out; omega) _⟩
      · have HN : Hid (FlagAt (wr.setCell ⟨b11, v, none⟩ (.bool false)) b11 48 (fun z => decide (z < ((v + 1 : Nat) : Int)) && (decide (1 ≤ z) && witK (flS A z) (flS B z)))) := Lib.hid ((HZ.out.put v false).ext (fun z _ _ => by
          by_cases e : z = (v : Int)
          · rw [if_pos e, e, HX.out, HY.out, decide_eq_true (by omega : (v : Int) < ((v + 1 : Nat) : Int)), decide_eq_true (by omega : 1 ≤ (v : Int))]
            rfl
          · rw [if_neg e]
            congr 1
            rw [decide_eq_decide]
            omega))
        go_wp2_with fail
        go_roundg g
        case measure => omega
        case rel => exact ⟨v + 1, by go_num, by omega, by omega, HA2.out.set_other (by have := HS.out; omega) _, HB2.out.set_other (by have := HS.out; omega) _, HN.out, HBI.out.setCell (by show w.heap.size ≤ b11; have := HS.out; omega) _⟩
end Go.Proofs.YtiolchdfjlffoaaDoor
