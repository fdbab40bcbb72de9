/-
  A set with one more version, told by the program; the set of some versions, whether one is in a set, how many there are, the least and the greatest, told by the reference. Condition: the slices lead to what they are said to.
-/
import Derived.Test.YtiolchdfjlffoaaDoorIL
namespace Go.Proofs.YtiolchdfjlffoaaDoor
open Go.RowKit Go.Lib Go.Joins

set_option maxRecDepth 100000 in
set_option maxHeartbeats 2000000 in
theorem add_calls {w : World} {va : Value} {l : List Sp} (v : Int) (h : SpIn w va l) : Calls Tryd.prog 26 #[va, .int .i64 v] w (SetOut (putS orrK l (setF (inI [v]))) w) := by
  obtain ⟨W1, hW1⟩ : ∃ W1, w.alloc (.cells #[.int .i64 v] 3) = W1 := ⟨_, rfl⟩
  have hB1 : Below w.heap.size w W1 := by rw [← hW1]; exact (Below.refl _ _).alloc (Nat.le_refl _) _
  have hin : IntIn W1 (.slice (some ⟨w.heap.size, 0, none⟩) 1 1) [v] := ⟨_, 1, rfl, Nat.le_refl _, by unfold maxLen; omega, fun e => (by cases e), .inr ⟨_, 0, rfl, fun i x hx => by
    cases i with
    | zero =>
      obtain rfl : v = x := by simpa using hx
      rw [← hW1]
      exact (cell_of_block (heap_alloc_new _ _) 0).trans rfl
    | succ i => simp at hx⟩⟩
  have HO := Lib.hid (of_calls hin)
  have HU := Lib.hid (fun (W : World) (hb : Below W1.heap.size W1 W) (v' : Value) (C : List Sp) (hc : SpIn W v' C) => union_calls ((h.below hB1).below hb) hc)
  obtain ⟨a, c, rfl, _⟩ := h.form
  obtain ⟨n, hl⟩ : ∃ n, l.length = n := ⟨_, rfl⟩
  rw [hl] at HU ⊢
  have HB1 := Lib.hid hB1
  have HW1 := Lib.hid hW1
  obtain ⟨C, hC⟩ : ∃ C, setF (inI [v]) = C := ⟨_, rfl⟩
  rw [hC] at HO ⊢
  clear h hl hW1 hB1 hin hC
  unfold SetOut at HO HU ⊢
  go_enter Tryd.func26, Tryd.ntmps26
  go_wp2_with fail
  rw [HW1.out]
  with_reducible refine HO.out.mono ?_
  rintro e w2 ⟨v2, rfl, hin2, hb2⟩
  have HU2 := Lib.hid (HU.out w2 hb2 v2 C hin2)
  obtain ⟨a2, c2, rfl, _⟩ := hin2.form
  obtain ⟨n2, hn2⟩ : ∃ n, C.length = n := ⟨_, rfl⟩
  rw [hn2] at HU2 ⊢
  have HB2 := Lib.hid (below_then HB1.out hb2)
  clear hin2 hb2 hn2 HU HO
  go_wp2_with fail
  with_reducible refine HU2.out.mono ?_
  rintro e w3 ⟨v3, rfl, hin3, hb3⟩
  obtain ⟨a3, c3, rfl, _⟩ := hin3.form
  have HI3 := Lib.hid hin3
  have HB3 := Lib.hid (below_then HB2.out hb3)
  obtain ⟨n3, hn3⟩ : ∃ n, (putS orrK l C).length = n := ⟨_, rfl⟩
  rw [hn3] at HI3 ⊢
  clear hin3 hb3 hn3 HU2
  go_wp2_with fail
  go_ret
  exact ⟨_, rfl, HI3.out, HB3.out⟩

set_option maxRecDepth 100000 in
set_option maxHeartbeats 8000000 in
theorem rof_calls {w : World} {v : Value} {l : List Int} (h : IntIn w v l) : Calls Tryd.prog 27 #[v] w (SetOut (setF (inI l)) w) := by
  obtain ⟨a, c, rfl, hc, hm, hn⟩ := h.form
  obtain ⟨n, hl⟩ : ∃ n, l.length = n := ⟨_, rfl⟩
  rw [hl] at h hc ⊢
  have HR := Lib.hid h
  have HL := Lib.hid hl
  have hcm : c ≤ maxLen := hm
  unfold maxLen at hcm
  obtain ⟨C, hC⟩ : ∃ C, setF (inI l) = C := ⟨_, rfl⟩
  rw [hC]
  have HC := Lib.hid hC
  clear h hl hm hn hC
  obtain ⟨W1, hW1⟩ : ∃ W1, w.alloc (.cells Tryd.zeroCells48 48) = W1 := ⟨_, rfl⟩
  have HB1 : Hid (Below w.heap.size w W1) := Lib.hid (by rw [← hW1]; exact (Below.refl _ _).alloc (Nat.le_refl _) _)
  have HF1 : Hid (FlagAt W1 w.heap.size 48 (fun _ => false)) := Lib.hid (by rw [← hW1, zero48]; exact heap_alloc_new _ _)
  obtain ⟨b0, hb0⟩ : ∃ b0, w.heap.size = b0 := ⟨_, rfl⟩
  rw [hb0] at HF1 HB1
  have HW1 := Lib.hid hW1
  have HB0 := Lib.hid hb0
  clear hW1 hb0
  unfold SetOut
  go_enter Tryd.func27, Tryd.ntmps27
  go_upto_region 2 with (fail)
  rw [HW1.out, HB0.out]
  go_wp2_with fail
  go_loopg [4] n (fun g ix wr => ∃ i : Nat, ix = .int .i64 (i : Int) ∧ g + i = n ∧ FlagAt wr b0 48 (verI (l.take i)) ∧ Below b0 w wr)
  case atStart => exact ⟨0, rfl, rfl, HF1.out.ext (fun v _ _ => by rw [List.take_zero]; unfold verI; rw [inI_nil, Bool.and_false]), HB1.out⟩
  case round =>
    obtain ⟨i, rfl, hg, hfl, hb⟩ := hrel
    have HFL := Lib.hid hfl
    have HB := Lib.hid hb
    clear hfl hb HF1
    cases gk with
    | zero =>
      obtain rfl : i = n := by omega
      have hge : ¬ ((i : Int) < (i : Int)) := by omega
      obtain ⟨G, hG⟩ : ∃ G, verI l = G := ⟨_, rfl⟩
      have HGL : Hid (FlagAt wr b0 48 G) := Lib.hid (by rw [← hG]; have := HFL.out; rw [List.take_of_length_le (by have := HL.out; omega)] at this; exact this)
      have HGC : Hid (setF G = C) := Lib.hid (by rw [← HC.out, ← hG]; exact setF_ver l)
      have HSP := Lib.hid (spans_calls (w := wr) (G := G))
      rw [HGC.out] at HSP
      unfold SetOut at HSP
      clear hG HFL
      go_upto_region 7 with (fail)
      go_wp2_with (refine wpList_load_row rfl 48 (.tmp 3) rfl b0 rfl 48 (flagV G) (0, 0) _ HGL.out Tryd.underlying48 rfl (by rw [flagV_size]; exact info48) ?_)
      with_reducible refine HSP.out.mono ?_
      rintro e w9 ⟨v9, rfl, hin, hb9⟩
      obtain ⟨a9, c9, rfl, _⟩ := hin.form
      have HIN := Lib.hid hin
      have HB9 := Lib.hid hb9
      obtain ⟨n9, hn9⟩ : ∃ n, C.length = n := ⟨_, rfl⟩
      rw [hn9] at HIN ⊢
      clear hin hb9 hn9
      go_wp2_with fail
      go_ret
      exact ⟨_, rfl, HIN.out, below_then (by rw [HB0.out]; exact HB.out) HB9.out⟩
    | succ g =>
      have hlt : (i : Int) < (n : Int) := by omega
      have hi0 : (0 : Int) ≤ (i : Int) := by omega
      have hic : i ≤ c := by omega
      have hadd : IntKind.i64.wrap ((i : Int) + 1) = ((i + 1 : Nat) : Int) := IntWalk.i64_in _ (by omega)
      obtain ⟨x, hx, _⟩ := drop_at (l := l) (i := i) (by have := HL.out; omega)
      obtain ⟨b, o, rfl, y1⟩ := HR.out.at hx
      replace y1 := cell_below (w := w) (w' := wr) (by rw [HB0.out]; exact HB.out) y1
      have HX := Lib.hid hx
      clear hx
      by_cases h1 : 1 ≤ x
      · by_cases h2 : x ≤ 200
        · obtain ⟨k, rfl⟩ : ∃ k : Nat, x = (k : Int) := ⟨x.toNat, by omega⟩
          have z1 := HFL.out.cell (i := k) (by omega)
          have z2 := HFL.out.frozen k
          have hkt : (k : Int) < 201 := by omega
          have hk0 : (0 : Int) ≤ (k : Int) := by omega
          have H12 : Hid (1 ≤ (k : Int) ∧ (k : Int) ≤ 200) := Lib.hid ⟨h1, h2⟩
          go_wp2_with fail
          go_roundg g
          case measure => omega
          case rel => exact ⟨i + 1, by go_num, by omega, (HFL.out.set k).ext (fun v _ _ => verI_on HX.out H12.out.1 H12.out.2 v), HB.out.setCell (by simp) _⟩
        · have H12 : Hid (¬ (1 ≤ x ∧ x ≤ 200)) := Lib.hid (fun e => h2 e.2)
          go_wp2_with fail
          go_roundg g
          case measure => omega
          case rel => exact ⟨i + 1, by go_num, by omega, HFL.out.ext (fun v _ _ => verI_off HX.out H12.out v), HB.out⟩
      · have H12 : Hid (¬ (1 ≤ x ∧ x ≤ 200)) := Lib.hid (fun e => h1 e.1)
        go_wp2_with fail
        go_roundg g
        case measure => omega
        case rel => exact ⟨i + 1, by go_num, by omega, HFL.out.ext (fun v _ _ => verI_off HX.out H12.out v), HB.out⟩

theorem flS_has (l : List Sp) (v : Int) : flS l v = hasS l v := rfl
set_option maxRecDepth 100000 in
set_option maxHeartbeats 4000000 in
theorem rhas_calls {w : World} {va : Value} {l : List Sp} (v : Int) (h : SpIn w va l) : Calls Tryd.prog 22 #[va, .int .i64 v] w (Leaves (.bool (hasS l v)) w) := by
  have HFA := Lib.hid (flags_calls h)
  obtain ⟨a, c, rfl, _⟩ := h.form
  obtain ⟨n, hl⟩ : ∃ n, l.length = n := ⟨_, rfl⟩
  obtain ⟨Q, hQ⟩ : ∃ Q, hasS l v = Q := ⟨_, rfl⟩
  rw [hQ]
  have HQ := Lib.hid hQ
  rw [hl] at HFA ⊢
  clear h hl hQ
  go_enter Tryd.func22, Tryd.ntmps22
  go_wp2_with fail
  with_reducible refine HFA.out.mono ?_
  rintro e w1 ⟨rfl, hb1⟩
  have HB1 := Lib.hid hb1
  clear hb1 HFA
  go_upto_region 2 with (refine wpList_store_row rfl 48 (.tmp 5) (.tmp 10) rfl w1.heap.size (flagV (flS l)) rfl rfl 48 _ (heap_alloc_new _ _) (by rw [flagV_size]; exact info48) (by rw [zero48, flagV_size, flagV_size]) (flagV_one _) ?_)
  obtain ⟨W2, hW2⟩ : ∃ W, (w1.alloc (.cells Tryd.zeroCells48 48)).setRow w1.heap.size (flagV (flS l)) = W := ⟨_, rfl⟩
  rw [hW2]
  have HB2 : Hid (Below w.heap.size w W2) := Lib.hid (by rw [← hW2]; exact store_below HB1.out HB1.out.size _ _ _)
  have HA2 : Hid (FlagAt W2 w1.heap.size 48 (flS l)) := Lib.hid (by rw [← hW2]; exact store_flags _ _ _ _)
  clear hW2
  obtain ⟨b7, hb7⟩ : ∃ b, w1.heap.size = b := ⟨_, rfl⟩
  rw [hb7] at HA2 ⊢
  clear hb7
  cases hm : mayS l with
  | false =>
    have HF : Hid (Q = false) := Lib.hid (by rw [← HQ.out]; unfold hasS; rw [hm]; rfl)
    clear hm
    go_wp2_with fail
    go_ret
    exact ⟨by rw [HF.out]; rfl, HB2.out⟩
  | true =>
    by_cases h1 : 1 ≤ v
    · by_cases h2 : v ≤ 200
      · obtain ⟨k, rfl⟩ : ∃ k : Nat, v = (k : Int) := ⟨v.toNat, by omega⟩
        have z1 := HA2.out.cell (i := k) (by omega)
        rw [flS_has, HQ.out] at z1
        have hkt : (k : Int) < 201 := by omega
        have hk0 : (0 : Int) ≤ (k : Int) := by omega
        clear hm
        go_wp2_with fail
        go_ret
        exact ⟨rfl, HB2.out⟩
      · have HF : Hid (Q = false) := Lib.hid (by rw [← HQ.out]; unfold hasS; rw [mayS_high hm (by omega), Bool.and_false])
        clear hm
        go_wp2_with fail
        go_ret
        exact ⟨by rw [HF.out]; rfl, HB2.out⟩
    · have HF : Hid (Q = false) := Lib.hid (by rw [← HQ.out]; unfold hasS; rw [mayS_low hm (by omega), Bool.and_false])
      clear hm
      go_wp2_with fail
      go_ret
      exact ⟨by rw [HF.out]; rfl, HB2.out⟩

theorem fst_bound (g : Int → Bool) : ∀ n : Nat, 0 ≤ fstTo g n ∧ 0 ≤ lstTo g n
  | 0 => ⟨Int.le_refl _, Int.le_refl _⟩
  | n + 1 => by
    have := fst_bound g n
    rw [fstTo, lstTo]
    constructor
    · split
      · omega
      · exact this.1
    · split
      · omega
      · exact this.2
set_option maxRecDepth 100000 in
set_option maxHeartbeats 8000000 in
theorem rcount_calls {w : World} {va : Value} {l : List Sp} (h : SpIn w va l) : Calls Tryd.prog 19 #[va] w (Leaves (.tuple #[.int .i64 (cntS l), .int .i64 (fstS l), .int .i64 (lstS l)]) w) := by
  have HFA := Lib.hid (flags_calls h)
  obtain ⟨a, c, rfl, _⟩ := h.form
  obtain ⟨n, hl⟩ : ∃ n, l.length = n := ⟨_, rfl⟩
  have hcf := cnt_flags l
  have hfl : (fun v => mayS l && inS l v) = flS l := rfl
  rw [hfl] at hcf
  rw [hcf.1, hcf.2.1, hcf.2.2]
  rw [hl] at HFA ⊢
  clear h hl hcf hfl
  go_enter Tryd.func19, Tryd.ntmps19
  go_wp2_with fail
  with_reducible refine HFA.out.mono ?_
  rintro e w1 ⟨rfl, hb1⟩
  have HB1 := Lib.hid hb1
  clear hb1 HFA
  go_upto_region 2 with (refine wpList_store_row rfl 48 (.tmp 5) (.tmp 14) rfl w1.heap.size (flagV (flS l)) rfl rfl 48 _ (heap_alloc_new _ _) (by rw [flagV_size]; exact info48) (by rw [zero48, flagV_size, flagV_size]) (flagV_one _) ?_)
  obtain ⟨W2, hW2⟩ : ∃ W, (w1.alloc (.cells Tryd.zeroCells48 48)).setRow w1.heap.size (flagV (flS l)) = W := ⟨_, rfl⟩
  rw [hW2]
  have HB2 : Hid (Below w.heap.size w W2) := Lib.hid (by rw [← hW2]; exact store_below HB1.out HB1.out.size _ _ _)
  obtain ⟨G, hG⟩ : ∃ G, flS l = G := ⟨_, rfl⟩
  have HA2 : Hid (FlagAt W2 w1.heap.size 48 G) := Lib.hid (by rw [← hW2, ← hG]; exact store_flags _ _ _ _)
  obtain ⟨bm, hbm⟩ : ∃ b, mayS l = b := ⟨_, rfl⟩
  rw [hG, hbm]
  have HG := Lib.hid hG
  clear hW2 hbm hG
  obtain ⟨b7, hb7⟩ : ∃ b, w1.heap.size = b := ⟨_, rfl⟩
  rw [hb7] at HA2 ⊢
  clear hb7
  go_wp2_with fail
  go_loopg [7, 8, 9, 10] 200 (fun g s1 s2 s3 ix wr => ∃ (k : Nat) (x y z : Int), s1 = .int .i64 x ∧ s2 = .int .i64 y ∧ s3 = .int .i64 z ∧ ix = .int .i64 ((k : Int) + 1) ∧ g + k = 200 ∧ x = cntTo G k ∧ y = fstTo G k ∧ z = lstTo G k ∧ W2 = wr)
  case atStart => exact ⟨0, 0, 0, 0, rfl, rfl, rfl, rfl, rfl, rfl, rfl, rfl, rfl⟩
  case round =>
    obtain ⟨k, x, y, z, rfl, rfl, rfl, rfl, hg, hx, hy, hz, rfl⟩ := hrel
    have HX := Lib.hid hx
    have HY := Lib.hid hy
    have HZ := Lib.hid hz
    have hxb := cntTo_bound G k
    rw [← hx] at hxb
    have hyb := (fst_bound G k).1
    rw [← hy] at hyb
    clear hx hy hz
    cases gk with
    | zero =>
      obtain rfl : k = 200 := by omega
      have hge : ¬ (((200 : Nat) : Int) + 1 ≤ 200) := by omega
      go_wp2_with fail
      refine bodyPost_ret (v := .tuple #[.int .i64 x, .int .i64 y, .int .i64 z]) (by simp [results, Tryd.results19, go_sem]) rfl ⟨by rw [HX.out, HY.out, HZ.out, HG.out], HB2.out⟩
    | succ g =>
      have hlt : (k : Int) + 1 ≤ 200 := by omega
      have hk0 : (0 : Int) ≤ (k : Int) + 1 := by omega
      have hk1 : (k : Int) + 1 < 201 := by omega
      have hadd : IntKind.i64.wrap ((k : Int) + 1 + 1) = (k : Int) + 1 + 1 := IntWalk.i64_in _ (by omega)
      have hax : IntKind.i64.wrap (x + 1) = x + 1 := IntWalk.i64_in _ (by omega)
      have z1 := HA2.out.cell (i := k + 1) (by omega)
      obtain ⟨bk, hbk⟩ : ∃ bk, G ((k + 1 : Nat) : Int) = bk := ⟨_, rfl⟩
      rw [hbk] at z1
      have HBK := Lib.hid hbk
      clear hbk
      cases bk with
      | false =>
        have HN : Hid (x = cntTo G (k + 1) ∧ y = fstTo G (k + 1) ∧ z = lstTo G (k + 1)) := Lib.hid (by
          rw [cntTo, fstTo, lstTo, HBK.out, if_neg Bool.false_ne_true, if_neg (fun e => Bool.false_ne_true e.1), if_neg Bool.false_ne_true]
          exact ⟨HX.out, HY.out, HZ.out⟩)
        go_wp2_with fail
        go_roundg g
        case measure => omega
        case rel => exact ⟨k + 1, x, y, z, rfl, rfl, rfl, by go_num, by omega, HN.out.1, HN.out.2.1, HN.out.2.2, rfl⟩
      | true =>
        by_cases hy0 : y = 0
        · have hye : (y == 0) = true := by rw [beq_iff_eq]; exact hy0
          have HN : Hid (x + 1 = cntTo G (k + 1) ∧ (k : Int) + 1 = fstTo G (k + 1) ∧ (k : Int) + 1 = lstTo G (k + 1)) := Lib.hid (by
            rw [cntTo, fstTo, lstTo, HBK.out, if_pos rfl, if_pos ⟨rfl, by rw [← HY.out]; exact hy0⟩, if_pos rfl]
            exact ⟨by rw [← HX.out], by omega, by omega⟩)
          clear hy0
          go_wp2_with fail
          go_roundg g
          case measure => omega
          case rel => exact ⟨k + 1, x + 1, (k : Int) + 1, (k : Int) + 1, rfl, rfl, rfl, by go_num, by omega, HN.out.1, HN.out.2.1, HN.out.2.2, rfl⟩
        · have hye : (y == 0) = false := by rw [beq_eq_false_iff_ne]; exact hy0
          have HN : Hid (x + 1 = cntTo G (k + 1) ∧ y = fstTo G (k + 1) ∧ (k : Int) + 1 = lstTo G (k + 1)) := Lib.hid (by
            rw [cntTo, fstTo, lstTo, HBK.out, if_pos rfl, if_neg (fun e => hy0 (by rw [HY.out]; exact e.2)), if_pos rfl]
            exact ⟨by rw [← HX.out], HY.out, by omega⟩)
          clear hy0
          go_wp2_with fail
          go_roundg g
          case measure => omega
          case rel => exact ⟨k + 1, x + 1, y, (k : Int) + 1, rfl, rfl, rfl, by go_num, by omega, HN.out.1, HN.out.2.1, HN.out.2.2, rfl⟩
end Go.Proofs.YtiolchdfjlffoaaDoor
