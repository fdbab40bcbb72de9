/-
  The walk of the law ManBack at every manifest and byte. Conditions: the slice leads to numbers; the library's table of powers of ten is laid.
-/
import Derived.Test.YtacfcfbleogioaaDoorMAwake
import Derived.Test.YtacfcfbleogioaaDoorMRef
namespace Go.Proofs.YtacfcfbleogioaaDoor
open Go.RowKit Go.Lib Go.Joins

theorem enc_ext {m m' : Mfs} (hm : mayM m = true) (hm' : mayM m' = true) {x : Nat} (e : encM m' = encM m ++ [x]) : False := by
  have h1 := (firstB_enc hm' []).2.2
  have h2 := (firstB_enc hm [x]).2.2
  rw [List.append_nil, e, h2] at h1
  have l1 := congrArg List.length e
  have l2 := congrArg List.length h1
  rw [List.length_append, encM_len hm, encM_len hm', List.length_singleton] at l1
  rw [recM_len, recM_len] at l2
  omega
theorem dec_longer {m : Mfs} (hm : mayM m = true) (x : Nat) : decM (encM m ++ [x]) = none := decM_none fun _ hm' e => enc_ext hm hm' e
theorem dec_shorter {m : Mfs} (hm : mayM m = true) {k : Nat} (hk : (encM m).length = k + 1) : decM ((encM m).take k) = none := decM_none fun m' hm' e => by
  have hlt : k < (encM m).length := by omega
  refine enc_ext hm' hm (x := (encM m)[k]) ?_
  rw [e]
  have h := List.take_add_one (l := encM m) (i := k)
  rw [List.take_of_length_le (by omega), List.getElem?_eq_getElem hlt] at h
  exact h

set_option maxRecDepth 100000 in
set_option maxHeartbeats 16000000 in
theorem law_back (g l : Int) (a : Option Addr) (segs : List Int) (n c : Nat) (x : Nat) (w : World) (ht : Tab w) (hx : x < 256) (hr : IRow w (fun k => k < w.heap.size) a segs) (hn : segs.length = n) (hm : n ≤ 140737488355328) (h0 : a = none → c = 0) :
    Calls Tryd.prog 4 #[.agg #[.int .i64 g, .int .i64 l, .slice a n c], .int .u8 (x : Int)] w (Leaves (.bool true) w) := by
  obtain ⟨W1, hW1⟩ : ∃ W, w.alloc (.cells #[.int .i64 g, .int .i64 l, .slice a n c] 24) = W := ⟨_, rfl⟩
  have hb1 : Below w.heap.size w W1 := by rw [← hW1]; exact (Below.refl _ _).alloc (Nat.le_refl _) _
  have hk1 : W1.heap[w.heap.size]? = some (.cells #[.int .i64 g, .int .i64 l, .slice a n c] 24 (0, 0)) := by rw [← hW1]; exact heap_alloc_new _ _
  have HW1 := Lib.hid hW1
  have HB1 := Lib.hid hb1
  have HTAB := Lib.hid (ht.below hb1)
  have HR := Lib.hid (hr.below hb1)
  have HN := Lib.hid hn
  have HC : Hid (∀ W, Below W1.heap.size W1 W → W.cell? ⟨w.heap.size, 0, none⟩ = some (.int .i64 g) ∧ W.cell? ⟨w.heap.size, 1, none⟩ = some (.int .i64 l) ∧ W.cell? ⟨w.heap.size, 2, none⟩ = some (.slice a n c)) := Lib.hid (fun W hb => by
    have h := block_below hb hk1
    exact ⟨(cell_of_block h 0).trans rfl, (cell_of_block h 1).trans rfl, (cell_of_block h 2).trans rfl⟩)
  clear hW1 hb1 hk1 ht hr hn
  go_enter Tryd.func4, Tryd.ntmps4
  go_wp2_with fail
  rw [HW1.out]
  with_reducible refine (awake8_calls W1 HTAB.out).mono ?_
  rintro e w1 ⟨rfl, hb1⟩
  have HB01 := Lib.hid (below_then HB1.out hb1)
  have HB2 := Lib.hid hb1
  obtain ⟨c0, c1, c2⟩ := HC.out _ hb1
  clear hb1
  by_cases hbig : 1000 < n
  · have d1 : decide ((n : Int) > 1000) = true := by simp; omega
    go_wp2
    go_ret
    exact ⟨rfl, HB01.out⟩
  have d1 : decide ((n : Int) > 1000) = false := by simp; omega
  have HMY := Lib.hid (rmay8_calls g l a segs n c w1 (HR.out.below HB2.out) HN.out (by omega))
  cases hmm : mayM ⟨g, l, segs⟩ with
  | false =>
    rw [hmm] at HMY
    go_wp2_with fail
    with_reducible refine HMY.out.mono ?_
    rintro e w2 ⟨rfl, hb2⟩
    have HB3 := Lib.hid (below_then HB01.out hb2)
    clear hb2
    go_wp2
    go_ret
    exact ⟨rfl, HB3.out⟩
  | true =>
  rw [hmm] at HMY
  have HMM := Lib.hid hmm
  clear hmm
  go_wp2_with fail
  with_reducible refine HMY.out.mono ?_
  rintro e w2 ⟨rfl, hb2⟩
  have HB3 := Lib.hid (below_then HB2.out hb2)
  obtain ⟨c0, c1, c2⟩ := HC.out _ HB3.out
  have HENC := Lib.hid (mencode_calls g l a segs n c w2 (HR.out.below HB3.out) HN.out (by omega) h0)
  obtain ⟨L, hL⟩ : ∃ L, encM ⟨g, l, segs⟩ = L := ⟨_, rfl⟩
  rw [hL] at HENC
  have hdm : decM L = some ⟨g, l, segs⟩ := by rw [← hL]; exact decM_enc HMM.out
  have hdl : decM (L ++ [x]) = none := by rw [← hL]; exact dec_longer HMM.out x
  obtain ⟨Q, hK⟩ : ∃ Q, L.length = Q + 1 := ⟨23 + 4 * segs.length, by rw [← hL, encM_len HMM.out]; show 24 + 4 * segs.length = _; omega⟩
  have hds : decM (L.take Q) = none := by
    have h1 : (encM ⟨g, l, segs⟩).length = Q + 1 := by rw [hL]; exact hK
    have := dec_shorter HMM.out h1
    rwa [hL] at this
  have hK9 : Q ≤ 1000 := by
    have h1 := encM_le ⟨g, l, segs⟩
    rw [hL] at h1
    omega
  have HDM := Lib.hid hdm
  have HDL := Lib.hid hdl
  have HDS := Lib.hid hds
  have HK := Lib.hid hK
  clear hb2 hL hdm hdl hds hK HMY
  go_wp2_with fail
  with_reducible refine HENC.out.mono ?_
  rintro e w3 ⟨v3, rfl, hown3⟩
  obtain ⟨a3, e3, hv3, hrow3, _, hl3, hm3⟩ := hown3.form
  obtain ⟨N, hN⟩ : ∃ N, L.length = N := ⟨_, rfl⟩
  rw [hN] at hv3 hl3
  subst hv3
  have HDEC := Lib.hid (mdecode_calls a3 L N e3 w3 hrow3 hN (by have := HK.out; omega) hl3 hm3)
  unfold DecOut at HDEC
  rw [HDM.out] at HDEC
  have HROW3 := Lib.hid hrow3
  have HB4 := Lib.hid (below_then HB3.out hown3.bel)
  have HN3 := Lib.hid hN
  clear hrow3 hown3 hN HENC c0 c1 c2
  go_wp2_with fail
  with_reducible refine HDEC.out.mono ?_
  rintro e w4 ⟨v4, rfl, hmv4, hb4⟩
  obtain ⟨a4, e4, S4, hv4, hir4, _, _, _, _⟩ := hmv4
  have hv4' : v4 = .agg #[.int .i64 g, .int .i64 l, .slice a4 n e4] := by rw [hv4, ← HN.out]; rfl
  clear hv4
  subst hv4'
  obtain ⟨W5, hW5⟩ : ∃ W, w4.alloc (.cells #[.int .i64 g, .int .i64 l, .slice a4 n e4] 24) = W := ⟨_, rfl⟩
  have hb45 : Below w4.heap.size w4 W5 := by rw [← hW5]; exact (Below.refl _ _).alloc (Nat.le_refl _) _
  have hk5 : W5.heap[w4.heap.size]? = some (.cells #[.int .i64 g, .int .i64 l, .slice a4 n e4] 24 (0, 0)) := by rw [← hW5]; exact heap_alloc_new _ _
  have HB5 := Lib.hid (below_then HB4.out (below_then hb4 hb45))
  have HROW5 := Lib.hid ((HROW3.out.below hb4).below hb45)
  have HIR5 := Lib.hid (hir4.below hb45)
  have HK5 := Lib.hid hk5
  -- an empty slice of bytes, and b and the byte behind it
  have ho6 := Own.empty W5
  obtain ⟨v7, W7, hrun7, hown7, -⟩ := ho6.append (m := N) (c := e3) (HROW5.out.below ho6.bel) HN3.out (fun e => by have h1 := HK.out; have h2 := HN3.out; subst e; rcases HROW5.out.2 with h | ⟨_, _, h, _⟩; rw [h] at h1; simp at h1; cases h) (by have h1 := HK.out; have h2 := HN3.out; simp; omega)
  have hrow8 := row_new W7 [x] (fun y hy => by obtain rfl := List.mem_singleton.1 hy; exact hx) (0, 0)
  obtain ⟨W8, hW8⟩ : ∃ W, W7.alloc (.cells #[.int .u8 (x : Int)] 5) = W := ⟨_, rfl⟩
  have hb78 : Below W7.heap.size W7 W8 := by rw [← hW8]; exact (Below.refl _ _).alloc (Nat.le_refl _) _
  have hrow8' : Row W8 (One W7.heap.size) (some ⟨W7.heap.size, 0, none⟩) [x] := by rw [← hW8]; exact hrow8
  obtain ⟨v9, W9, hrun9, hown9, -⟩ := (hown7.below hb78).append (m := 1) (c := 1) hrow8' rfl (fun e => by cases e) (by have h1 := HK.out; simp; omega)
  have hcat : ([] ++ L) ++ [x] = L ++ [x] := rfl
  rw [hcat] at hown9
  obtain ⟨a9, e9, hv9, hrow9, _, hl9, hm9⟩ := hown9.form
  have hlen9 : (L ++ [x]).length = N + 1 := by rw [List.length_append, HN3.out]; rfl
  rw [hlen9] at hv9 hl9
  have HDEC2 := Lib.hid (mdecode_calls a9 (L ++ [x]) (N + 1) e9 W9 hrow9 hlen9 (by have h1 := HK.out; have h2 := HN3.out; omega) hl9 hm9)
  unfold DecOut at HDEC2
  rw [HDL.out, ← hv9] at HDEC2
  have HB9 := Lib.hid hown9.bel
  have HRUN7 := Lib.hid hrun7
  have HRUN9 := Lib.hid hrun9
  clear hb4 hb45 hir4 hk5 ho6 hrun7 hown7 hrow8 hb78 hrow8' hrun9 hown9 hcat hv9 hrow9 hl9 hm9 hlen9 HDEC
  go_wp2_with (first | (at_builtin; refine wpList_step (fun K hK => step_app HRUN7.out (.tmp 31) (.tmp 32) rfl rfl rfl rfl (hK _ _ ?_))) | (at_builtin; refine wpList_step (fun K hK => step_app HRUN9.out (.tmp 33) (.tmp 35) rfl rfl rfl rfl (hK _ _ ?_))) | fail)
  clear hW5 hW8 HRUN7 HRUN9
  with_reducible refine HDEC2.out.mono ?_
  rintro e w10 ⟨v10, rfl, hmv10, hb10⟩
  obtain ⟨a10, e10, S10, hv10, _, _, _, _, _⟩ := hmv10
  have hv10' : v10 = .agg #[.int .i64 0, .int .i64 0, .slice a10 0 e10] := hv10
  clear hv10
  subst hv10'
  obtain ⟨W11, hW11⟩ : ∃ W, w10.alloc (.cells #[.int .i64 0, .int .i64 0, .slice a10 0 e10] 24) = W := ⟨_, rfl⟩
  have hb1011 : Below w10.heap.size w10 W11 := by rw [← hW11]; exact (Below.refl _ _).alloc (Nat.le_refl _) _
  have hb511 := below_then HB9.out (below_then hb10 hb1011)
  obtain ⟨b3, o3, rfl, _⟩ := row_at HROW3.out (i := 0) (x := L[0]'(by have := HK.out; omega)) (List.getElem?_eq_getElem _)
  have hNK : N = Q + 1 := by have h1 := HK.out; have h2 := HN3.out; omega
  have hwr : IntKind.i64.wrap ((N : Int) - 1) = (Q : Int) := by rw [IntWalk.i64_in _ (by omega)]; omega
  have hqe : Q ≤ e3 := by omega
  have HDEC3 := Lib.hid (mdecode_calls (some ⟨b3, o3, none⟩) (L.take Q) Q e3 W11 ((HROW5.out.below hb511).take Q) (by rw [List.length_take]; have := HK.out; omega) (by omega) hqe hm3)
  unfold DecOut at HDEC3
  rw [HDS.out] at HDEC3
  have HB11 := Lib.hid hb511
  clear hb10 hb1011 hb511 HDEC2
  go_wp2_with fail
  clear hW11
  with_reducible refine HDEC3.out.mono ?_
  rintro e w12 ⟨v12, rfl, hmv12, hb12⟩
  obtain ⟨a12, e12, S12, hv12, _, _, _, _, _⟩ := hmv12
  have hv12' : v12 = .agg #[.int .i64 0, .int .i64 0, .slice a12 0 e12] := hv12
  clear hv12
  subst hv12'
  obtain ⟨W13, hW13⟩ : ∃ W, w12.alloc (.cells #[.int .i64 0, .int .i64 0, .slice a12 0 e12] 24) = W := ⟨_, rfl⟩
  have hb1213 : Below w12.heap.size w12 W13 := by rw [← hW13]; exact (Below.refl _ _).alloc (Nat.le_refl _) _
  have hb513 := below_then HB11.out (below_then hb12 hb1213)
  have hb113 := below_then HB5.out hb513
  have hk := block_below hb513 HK5.out
  have m0 : W13.cell? ⟨w4.heap.size, 0, none⟩ = some (.int .i64 g) := (cell_of_block hk 0).trans rfl
  have m1 : W13.cell? ⟨w4.heap.size, 1, none⟩ = some (.int .i64 l) := (cell_of_block hk 1).trans rfl
  have m2 : W13.cell? ⟨w4.heap.size, 2, none⟩ = some (.slice a4 n e4) := (cell_of_block hk 2).trans rfl
  obtain ⟨c0, c1, c2⟩ := HC.out _ hb113
  have hsm := rsame8_calls g l g l a4 a segs segs n e4 n c W13 (HIR5.out.below hb513) HN.out (by omega) (HR.out.below hb113) HN.out (by omega)
  rw [sameM_self] at hsm
  have HSM := Lib.hid hsm
  have HB13 := Lib.hid (below_then HB1.out hb113)
  clear hb12 hb1213 hb513 hb113 hk hsm HDEC3
  go_wp2_with fail
  clear hW13
  with_reducible refine HSM.out.mono ?_
  rintro e w14 ⟨rfl, hb14⟩
  have HB14 := Lib.hid (below_then HB13.out hb14)
  clear hb14
  go_wp2_with fail
  go_ret
  exact ⟨rfl, HB14.out⟩

end Go.Proofs.YtacfcfbleogioaaDoor
