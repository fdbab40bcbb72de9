/-
  A manifest's bytes, told by the reference. Condition: the slice leads to numbers.
-/
import Derived.Test.YtacfcfbleogioaaGreatDoorMEnc
import Derived.Test.YtacfcfbleogioaaGreatDoorMRefA
namespace Go.Proofs.YtacfcfbleogioaaGreatDoor
open Go.RowKit Go.Lib Go.Joins

theorem u32_of {m : Nat} (h : m < 4294967296) : IntKind.u32.wrap (m : Int) = (m : Int) := by
  simp [IntKind.wrap, IntKind.signed, IntKind.bits]
  omega
theorem ws_take {l : List Int} {i : Nat} {x : Int} (hx : l[i]? = some x) : wsB (l.take (i + 1)) = wsB (l.take i) ++ w32 x.toNat := by
  rw [List.take_add_one, hx, wsB_app]
  simp [wsB]

theorem four_row {w w' : World} {k : Nat} {l : List Nat} (h : Own w w' (.slice (some ⟨k, 0, none⟩) 4 4) l) : ∃ S, Row w' S (some ⟨k, 0, none⟩) l := by
  obtain ⟨a, c, hv, hr, _⟩ := h.form
  obtain rfl : some ⟨k, 0, none⟩ = a := by simpa using (Value.slice.inj hv).1
  exact ⟨_, hr⟩
/-- Four bytes more. -/
theorem app_four {w0 w w4 : World} {v : Value} {l : List Nat} {k m : Nat} (h : Own w0 w v l) (hf : Own w w4 (.slice (some ⟨k, 0, none⟩) 4 4) (w32 m)) (hs : l.length ≤ 1000000) :
    ∃ v' w', (∀ ty, (Builtin.append_ #[61, 61] ty #[v, .slice (some ⟨k, 0, none⟩) 4 4]).run Tryz.prog w4 = .ok v' w') ∧ Own w0 w' v' (l ++ w32 m) := by
  obtain ⟨S, hr⟩ := four_row hf
  obtain ⟨v', w', h1, h2, _⟩ := (h.below hf.bel).append (m := 4) (c := 4) hr (w32_len m) (fun e => by cases e) (by omega)
  exact ⟨v', w', h1, h2⟩

set_option maxRecDepth 100000 in
set_option maxHeartbeats 8000000 in
theorem rencode8_calls {S : Nat → Prop} (g l : Int) (a : Option Addr) (segs : List Int) (n c : Nat) (w : World) (hr : IRow w S a segs) (hn : segs.length = n) (hm : n ≤ 1099511627776) :
    Calls Tryz.prog 67 #[.agg #[.int .i64 g, .int .i64 l, .slice a n c]] w (Gives (encM ⟨g, l, segs⟩) w) := by
  obtain ⟨W1, hW1⟩ : ∃ W1, w.alloc (.cells #[.int .i64 g, .int .i64 l, .slice a n c] 25) = W1 := ⟨_, rfl⟩
  have hb1 : Below w.heap.size w W1 := by rw [← hW1]; exact (Below.refl _ _).alloc (Nat.le_refl _) _
  have hk1 : W1.heap[w.heap.size]? = some (.cells #[.int .i64 g, .int .i64 l, .slice a n c] 25 (0, 0)) := by rw [← hW1]; exact heap_alloc_new _ _
  have HMAY := Lib.hid (rmay8_calls g l a segs n c W1 (hr.below hb1) hn (by omega))
  have c0 : W1.cell? ⟨w.heap.size, 0, none⟩ = some (.int .i64 g) := (cell_of_block hk1 0).trans rfl
  have c1 : W1.cell? ⟨w.heap.size, 1, none⟩ = some (.int .i64 l) := (cell_of_block hk1 1).trans rfl
  have c2 : W1.cell? ⟨w.heap.size, 2, none⟩ = some (.slice a n c) := (cell_of_block hk1 2).trans rfl
  have HW1 := Lib.hid hW1
  have HB1 := Lib.hid hb1
  have HR1 := Lib.hid (hr.below hb1)
  have HC : Hid (∀ W, Below W1.heap.size W1 W → W.cell? ⟨w.heap.size, 0, none⟩ = some (.int .i64 g) ∧ W.cell? ⟨w.heap.size, 1, none⟩ = some (.int .i64 l) ∧ W.cell? ⟨w.heap.size, 2, none⟩ = some (.slice a n c)) := Lib.hid (fun W hb => by
    have h := block_below hb hk1
    exact ⟨(cell_of_block h 0).trans rfl, (cell_of_block h 1).trans rfl, (cell_of_block h 2).trans rfl⟩)
  cases hmm : mayM ⟨g, l, segs⟩ with
  | false =>
    rw [encM_not hmm]
    rw [hmm] at HMAY
    clear hr hb1 hk1 hW1 hn hmm
    go_enter Tryz.func67, Tryz.ntmps67
    go_wp2_with fail
    rw [HW1.out]
    with_reducible refine HMAY.out.mono ?_
    rintro e w2 ⟨rfl, hb2⟩
    have HB2 := Lib.hid (below_then HB1.out hb2)
    clear hb2
    go_wp2
    go_ret
    exact ⟨_, rfl, (Own.nil _).from HB2.out⟩
  | true =>
    have hmay := mayM_is.1 hmm
    have hnum := numsM_may hmay
    have HENC : Hid (encM ⟨g, l, segs⟩ = putB (magicM ++ wsB (numsM ⟨g, l, segs⟩))) := Lib.hid (if_pos hmm)
    rw [hmm] at HMAY
    rw [HENC.out]
    have hn64 : n ≤ 64 := by have := hmay.len1; rw [← hn]; exact this
    obtain ⟨gm, rfl, hg32⟩ : ∃ m : Nat, g = (m : Int) ∧ m < 4294967296 := by
      have := hnum g (by simp [numsM])
      exact ⟨g.toNat, by omega, by omega⟩
    obtain ⟨lm, rfl, hl32⟩ : ∃ m : Nat, l = (m : Int) ∧ m < 4294967296 := by
      have := hnum l (by simp [numsM])
      exact ⟨l.toNat, by omega, by omega⟩
    have HSEG : Hid (∀ (i : Nat) (x : Int), segs[i]? = some x → ∃ m : Nat, x = (m : Int) ∧ m < 4294967296) := Lib.hid (fun i x hx => by
      have := hnum x (by simp [numsM, List.mem_of_getElem? hx])
      exact ⟨x.toNat, by omega, by omega⟩)
    have HNM : Hid (wsB (numsM ⟨(gm : Int), (lm : Int), segs⟩) = w32 gm ++ (w32 lm ++ (w32 n ++ wsB segs))) := Lib.hid (by
      unfold numsM
      rw [hn]
      simp [wsB])
    rw [HNM.out]
    have HCV : Hid (∀ W : World, (convert 61 61 (.slice (some ⟨W.heap.size, 0, none⟩) 4 4)).run Tryz.prog (W.alloc (.cells magM 5)) = .ok (.slice (some ⟨W.heap.size, 0, none⟩) 4 4) (W.alloc (.cells magM 5 (4, 5)))) := Lib.hid (fun W =>
      Lib.run_convert_bytes_const W 61 5 magM 4 4 Tryz.underlying61 Tryz.underlying5)
    have HN := Lib.hid hn
    have HU1 := Lib.hid (u32_of hg32)
    have HU2 := Lib.hid (u32_of hl32)
    have HU3 := Lib.hid (u32_of (show n < 4294967296 by omega))
    have HP1 := Lib.hid (fun W => put32_gives gm W hg32)
    have HP2 := Lib.hid (fun W => put32_gives lm W hl32)
    have HP3 := Lib.hid (fun W => put32_gives n W (by omega))
    clear hr hb1 hk1 hW1 hmm hmay hnum hn HENC HNM
    go_enter Tryz.func67, Tryz.ntmps67
    go_wp2_with fail
    rw [HW1.out]
    with_reducible refine HMAY.out.mono ?_
    rintro e w2 ⟨rfl, hb2⟩
    have HB2 := Lib.hid hb2
    have hcv := HCV.out w2
    obtain ⟨W3, hW3⟩ : ∃ W3, w2.alloc (.cells magM 5 (4, 5)) = W3 := ⟨_, rfl⟩
    have hb23 : Below w2.heap.size w2 W3 := by rw [← hW3]; exact (Below.refl _ _).alloc (Nat.le_refl _) _
    have hrow3 : Row W3 (One w2.heap.size) (some ⟨w2.heap.size, 0, none⟩) magicM := by rw [← hW3]; exact row_new w2 magicM (by decide) (4, 5)
    rw [hW3] at hcv
    have HB3 := Lib.hid (below_then hb2 hb23)
    have HROW3 := Lib.hid hrow3
    obtain ⟨d0, d1, d2⟩ := HC.out _ HB3.out
    have hu1 := HU1.out
    have HW3S : Hid (∀ W, Below W3.heap.size W3 W → Below w.heap.size w W) := Lib.hid (fun W hb => below_then HB1.out (below_then HB3.out hb))
    clear hb2 hb23 hrow3 c0 c1 c2 HMAY
    unfold magM at hcv
    go_wp2_with fail
    with_reducible refine (HP1.out W3).mono ?_
    rintro e w4 ⟨rfl, hf4⟩
    obtain ⟨S4, hr4⟩ := four_row hf4
    obtain ⟨v5, W5, hrun5, hown5⟩ := append_full (n := 4) (m := 4) (c := 4) (HROW3.out.below hf4.bel) rfl hr4 (w32_len gm) (by decide) (by decide)
    have HRUN5 := Lib.hid hrun5
    have HOWN5 := Lib.hid hown5
    have HBS : Hid (∀ W, Below w4.heap.size w4 W → Below w.heap.size w W ∧ Below W1.heap.size W1 W) := Lib.hid (fun W hb => by
      have h := below_then hf4.bel hb
      exact ⟨HW3S.out _ h, below_then HB3.out h⟩)
    obtain ⟨d0, d1, d2⟩ := HC.out _ (HBS.out _ hown5.bel).2
    have hu2 := HU2.out
    clear hcv hW3 hf4 hr4 hrun5 hown5 hu1 HP1 HROW3
    go_wp2_with (first | (at_builtin; refine wpList_step (fun K hK => step_app HRUN5.out (.tmp 9) (.tmp 13) rfl rfl rfl rfl (hK _ _ ?_))) | fail)
    with_reducible refine (HP2.out W5).mono ?_
    rintro e w6 ⟨rfl, hf6⟩
    obtain ⟨v7, W7, hrun7, hown7⟩ := app_four HOWN5.out hf6 (by simp [magicM, w32])
    have HRUN7 := Lib.hid hrun7
    have HOWN7 := Lib.hid hown7
    obtain ⟨d0, d1, d2⟩ := HC.out _ (HBS.out _ hown7.bel).2
    have hu3 := HU3.out
    clear hf6 hrun7 hown7 hu2 HRUN5 HP2 HOWN5
    go_wp2_with (first | (at_builtin; refine wpList_step (fun K hK => step_app HRUN7.out (.tmp 15) (.tmp 19) rfl rfl rfl rfl (hK _ _ ?_))) | fail)
    with_reducible refine (HP3.out W7).mono ?_
    rintro e w8 ⟨rfl, hf8⟩
    obtain ⟨v9, W9, hrun9, hown9⟩ := app_four HOWN7.out hf8 (by simp [magicM, w32])
    have HRUN9 := Lib.hid hrun9
    have HOWN9 := Lib.hid hown9
    obtain ⟨d0, d1, d2⟩ := HC.out _ (HBS.out _ hown9.bel).2
    clear hf8 hrun9 hown9 hu3 HRUN7 HP3 HOWN7
    go_wp2_with (first | (at_builtin; refine wpList_step (fun K hK => step_app HRUN9.out (.tmp 21) (.tmp 26) rfl rfl rfl rfl (hK _ _ ?_))) | fail)
    go_wp2_with fail
    have HLN : Hid ((magicM ++ w32 gm ++ w32 lm ++ w32 n).length = 16) := Lib.hid (by simp [magicM, w32])
    obtain ⟨PRE, hpre⟩ : ∃ P, magicM ++ w32 gm ++ w32 lm ++ w32 n = P := ⟨_, rfl⟩
    have HFINL : Hid (magicM ++ (w32 gm ++ (w32 lm ++ (w32 n ++ wsB segs))) = PRE ++ wsB segs) := Lib.hid (by rw [← hpre]; simp only [List.append_assoc])

    rw [hpre] at HOWN9 HLN
    clear hpre HRUN9
    go_loopg [3, 4] n (fun gk acc idx wr => ∃ (i : Nat), idx = .int .i64 (i : Int) ∧ gk + i = n ∧ Own w4 wr acc (PRE ++ wsB (segs.take i)))
    case atStart => exact ⟨0, rfl, by omega, by rw [List.take_zero, wsB, List.append_nil]; exact HOWN9.out⟩
    case round =>
      obtain ⟨i, rfl, hg, hown⟩ := hrel
      have HG := Lib.hid hg
      have HO := Lib.hid hown
      clear hg hown HOWN9
      obtain ⟨d0, d1, d2⟩ := HC.out _ (HBS.out _ HO.out.bel).2
      by_cases hlt : i < n
      · obtain ⟨g', rfl⟩ : ∃ g', gk = g' + 1 := ⟨gk - 1, by have := HG.out; omega⟩
        have hdd : decide ((i : Int) < (n : Int)) = true := by simp; omega
        obtain ⟨x, hx⟩ : ∃ x, segs[i]? = some x := ⟨segs[i]'(by rw [HN.out]; exact hlt), List.getElem?_eq_getElem _⟩
        obtain ⟨m, rfl, hm32⟩ := HSEG.out i x hx
        obtain ⟨ab, ao, rfl, _, hcx⟩ := irow_at (HR1.out.below (HBS.out _ HO.out.bel).2) hx
        have hu4 := u32_of hm32
        have HTK : Hid (PRE ++ wsB (segs.take (i + 1)) = PRE ++ wsB (segs.take i) ++ w32 m) := Lib.hid (by rw [ws_take hx, List.append_assoc, Int.toNat_natCast])
        have HP4 := Lib.hid (put32_gives m wr hm32)
        have HLEN : Hid ((PRE ++ wsB (segs.take i)).length ≤ 1000000) := Lib.hid (by rw [List.length_append, HLN.out, wsB_len, List.length_take]; omega)
        clear hx
        go_wp2_with fail
        with_reducible refine HP4.out.mono ?_
        rintro e w10 ⟨rfl, hf10⟩
        obtain ⟨v11, W11, hrun11, hown11⟩ := app_four HO.out hf10 HLEN.out
        have HRUN11 := Lib.hid hrun11
        have HOWN11 := Lib.hid hown11
        clear hf10 hrun11 hown11 hu4 HP4
        go_wp2_with (first | (at_builtin; refine wpList_step (fun K hK => step_app HRUN11.out (.tmp 35) (.tmp 42) rfl rfl rfl rfl (hK _ _ ?_))) | fail)
        go_roundg g'
        case measure => omega
        case rel => exact ⟨i + 1, by go_num, by have := HG.out; omega, by rw [HTK.out]; exact HOWN11.out⟩
      · have hdd : decide ((i : Int) < (n : Int)) = false := by simp; omega
        have htk : segs.take i = segs := List.take_of_length_le (by rw [HN.out]; omega)
        have ho := HO.out
        rw [htk] at ho
        obtain ⟨ao, co, hv, hro, h0o, hlo, hmo⟩ := ho.form
        obtain ⟨L, hL⟩ : ∃ L, (PRE ++ wsB segs).length = L := ⟨_, rfl⟩
        have hL9 : L ≤ 1000000 := by
          rw [← hL, List.length_append, HLN.out, wsB_len, HN.out]; omega
        rw [hL] at hv hlo
        subst hv
        have HPUT := Lib.hid (frput_calls ao (PRE ++ wsB segs) L co wr hro hL (by omega) h0o)
        have HBW := Lib.hid (HBS.out _ ho.bel).1
        clear ho hro h0o hlo hmo hL htk HO
        go_wp2_with fail
        with_reducible refine HPUT.out.mono ?_
        rintro e w12 ⟨v12, rfl, hown12⟩
        have HO12 := Lib.hid hown12
        clear hown12
        go_wp2
        go_ret
        exact ⟨v12, rfl, by rw [HFINL.out]; exact HO12.out.from HBW.out⟩

end Go.Proofs.YtacfcfbleogioaaGreatDoor
