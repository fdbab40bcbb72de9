/-
 The reference's Same.
-/
import Derived.Test.YtjpkkflhcjjefaaGreatDoorXTy
namespace Go.Proofs.YtjpkkflhcjjefaaGreatDoor
open Go.RowKit Go.Lib Go.Joins
set_option maxHeartbeats 32000000
set_option maxRecDepth 100000 in
theorem rsame_step {m : Nat} (hih : ∀ {W : World} {r1 r2 : Nr} {t u : Tr}, NodeIn W Any r1 t → NodeIn W Any r2 u → t.count ≤ m → Calls Tryz.prog 22 #[nodeV r1, nodeV r2] W (Leaves (.bool (t.eqB u)) W)) {w : World} {r1 r2 : Nr} {t u : Tr} (h1 : NodeIn w Any r1 t) (h2 : NodeIn w Any r2 u) (hm : t.count ≤ m + 1) (hmm : m + 1 ≤ 1000000) : Calls Tryz.prog 22 #[nodeV r1, nodeV r2] w (Leaves (.bool (t.eqB u)) w) := by
 have HM : Hid (t.count ≤ m + 1 ∧ t.count ≤ 1000000) := hid ⟨hm, by omega⟩
 have heq := eqB_alike t u
 obtain ⟨Q, hQ⟩ : ∃ Q, t.eqB u = Q := ⟨_, rfl⟩
 rw [hQ] at heq
 rw [hQ]
 obtain ⟨hk, hn, hx, ha, rows1, hri1, hni1⟩ := h1.kids
 obtain ⟨hk2, hn2, hx2, ha2, rows2, hri2, hni2⟩ := h2.kids
 have hal : alikeB t u = (decide (r1.kind = r2.kind) && decide (r1.name = r2.name) && decide (r1.text = r2.text) && decide (t.attrs = u.attrs) && decide (t.kids.length = u.kids.length)) := by
  unfold alikeB
  rw [hk, hn, hx, hk2, hn2, hx2]
 obtain ⟨ka, kc, hkv, hkc, hkm, hkp⟩ := kids_form hri1 hni1
 obtain ⟨ja, jc, hjv, hjc, hjm, hjp⟩ := kids_form hri2 hni2
 obtain ⟨xa1, xa2, xa3, hxa⟩ := ha.slice
 obtain ⟨ya1, ya2, ya3, hya⟩ := ha2.slice
 obtain ⟨k, n, x, av, kv⟩ := r1
 obtain ⟨k2, n2, x2, av2, kv2⟩ := r2
 dsimp only at hkv hjv hxa hya hal ha ha2
 subst hkv
 subst hjv
 subst hxa
 subst hya
 obtain ⟨nk, hnk⟩ : ∃ z, t.kids.length = z := ⟨_, rfl⟩
 obtain ⟨nj, hnj⟩ : ∃ z, u.kids.length = z := ⟨_, rfl⟩
 rw [hnk, hnj] at hal
 obtain ⟨qa, hqa⟩ : ∃ z, decide (t.attrs = u.attrs) = z := ⟨_, rfl⟩
 rw [hqa] at hal
 obtain ⟨sn, hsn⟩ : ∃ s, strB n = s := ⟨_, rfl⟩
 obtain ⟨st, hst⟩ : ∃ s, strB x = s := ⟨_, rfl⟩
 obtain ⟨sn2, hsn2⟩ : ∃ s, strB n2 = s := ⟨_, rfl⟩
 obtain ⟨st2, hst2⟩ : ∃ s, strB x2 = s := ⟨_, rfl⟩
 have hsd : decide (n = n2) = decide (sn = sn2) := by
  rw [← hsn, ← hsn2]
  exact decide_eq_decide.2 ⟨fun h => by rw [h], fun h => strB_inj h⟩
 have hud : decide (x = x2) = decide (st = st2) := by
  rw [← hst, ← hst2]
  exact decide_eq_decide.2 ⟨fun h => by rw [h], fun h => strB_inj h⟩
 rw [hsd, hud] at hal
 rw [hal] at heq
 unfold nodeV
 dsimp only
 rw [hsn, hst, hsn2, hst2, hnk, hnj]
 obtain ⟨wa, hwa⟩ : ∃ W, w.alloc (.cells #[.int .i64 k, .string sn, .string st, .slice xa1 xa2 xa3, .slice ka nk kc] 25) = W := ⟨_, rfl⟩
 have hba : Below w.heap.size w wa := by rw [← hwa]; exact (Below.refl _ _).alloc (Nat.le_refl _) _
 have hka : wa.heap[w.heap.size]? = some (.cells #[.int .i64 k, .string sn, .string st, .slice xa1 xa2 xa3, .slice ka nk kc] 25 (0, 0)) := by rw [← hwa]; exact heap_alloc_new w _
 have hsz : wa.heap.size = w.heap.size + 1 := by rw [← hwa]; simp
 obtain ⟨w0, hw0⟩ : ∃ W, wa.alloc (.cells #[.int .i64 k2, .string sn2, .string st2, .slice ya1 ya2 ya3, .slice ja nj jc] 25) = W := ⟨_, rfl⟩
 have hb0 : Below wa.heap.size wa w0 := by rw [← hw0]; exact (Below.refl _ _).alloc (Nat.le_refl _) _
 have hkb : w0.heap[w.heap.size + 1]? = some (.cells #[.int .i64 k2, .string sn2, .string st2, .slice ya1 ya2 ya3, .slice ja nj jc] 25 (0, 0)) := by rw [← hsz, ← hw0]; exact heap_alloc_new wa _
 have hbw := below_then hba hb0
 have HKA := hid (block_keep hka (keeps_below hb0 Non) (fun h => h))
 have HKB := hid hkb
 have HB0 := hid hbw
 have hat := attrs9_calls (att_below ha hbw) (att_below ha2 hbw)
 rw [hqa] at hat
 have HAT := hid hat
 have HK1 : Hid (∃ b2 o2, (nk = 0 ∨ ka = some ⟨b2, o2, none⟩) ∧ PtrsIn w0 Any (kidPs b2 o2 nk) t.kids) := hid (by
  rw [hnk] at hkp
  rcases hkp with h0 | ⟨b2, o2, h3, h4⟩
  ·exact ⟨0, 0, .inl (by rw [← hnk, h0]; rfl), by rw [h0] at hnk ⊢; rw [← hnk]; exact trivial⟩
  ·exact ⟨b2, o2, .inr h3, h4.keep (keeps_below hbw Non) (fun _ _ h => h) (fun _ h => h)⟩)
 have HK2 : Hid (∃ b2 o2, (nj = 0 ∨ ja = some ⟨b2, o2, none⟩) ∧ PtrsIn w0 Any (kidPs b2 o2 nj) u.kids) := hid (by
  rw [hnj] at hjp
  rcases hjp with h0 | ⟨b2, o2, h3, h4⟩
  ·exact ⟨0, 0, .inl (by rw [← hnj, h0]; rfl), by rw [h0] at hnj ⊢; rw [← hnj]; exact trivial⟩
  ·exact ⟨b2, o2, .inr h3, h4.keep (keeps_below hbw Non) (fun _ _ h => h) (fun _ h => h)⟩)
 have HNK := hid hnk
 have HNJ := hid hnj
 have HNM : Hid (nk ≤ 1000000) := hid (by have h3 := cntL_len t.kids; have h4 := kids_cnt t; have h5 := HM.out; omega)
 have HWA := hid hwa
 have HW0 := hid hw0
 have HALL := hid heq
 clear hm hmm hQ hk hn hx ha hri1 hni1 hk2 hn2 hx2 ha2 hri2 hni2 hal hkc hkm hkp hjc hjm hjp hnk hnj hqa hsn hst hsn2 hst2 hsd hud hwa hba hka hsz hw0 hb0 hkb hbw hat heq h1 h2
 have kseq : ∀ s : ByteArray, (s.toList == s.toList) = true := fun s => by rw [beq_iff_eq]
 by_cases hk : k = k2
 ·subst hk
  have hkn : (k != k) = false := by simp
  by_cases hs : sn = sn2
  ·subst hs
   by_cases hu : st = st2
   ·subst hu
    cases qa with
    | true =>
     by_cases hl : nk = nj
     ·subst hl
      have HEQ : Hid (eqL (t.kids.drop 0) (u.kids.drop 0) = Q) := hid (by
       have h3 := HALL.out
       simp only [decide_true, Bool.and_true, Bool.true_and] at h3
       rw [List.drop_zero, List.drop_zero, h3])
      have HNU : Hid (u.kids.length = nk) := hid HNJ.out
      obtain ⟨b2, o2, hk1, hk2⟩ := HK1.out
      obtain ⟨b5, o5, hj1, hj2⟩ := HK2.out
      have HKC := hid hk2
      have HJC := hid hj2
      have HKD := hid hk1
      have HJD := hid hj1
      have hln : ((nk : Int) != (nk : Int)) = false := by simp
      clear hk1 hk2 hj1 hj2 HK1 HK2 HALL
      go_enter Tryz.func22, Tryz.ntmps22
      go_wp2_with fail
      rw [HWA.out, HW0.out]
      with_reducible refine HAT.out.mono ?_
      rintro e w2 ⟨rfl, hb2⟩
      have HB2 := hid hb2
      have z4 := (cell_of_block (block_keep HKA.out (keeps_below hb2 Non) (fun h => h)) 4).trans rfl
      have x4 := (cell_of_block (block_keep HKB.out (keeps_below hb2 Non) (fun h => h)) 4).trans rfl
      clear hb2
      go_wp2_with fail
      go_loopg [5] nk (fun g s5 wr => ∃ i : Nat, i + g = nk ∧ s5 = .int .i64 (i : Int) ∧ eqL (t.kids.drop i) (u.kids.drop i) = Q ∧ Below w0.heap.size w0 wr)
      case atStart => exact ⟨0, by omega, rfl, HEQ.out, HB2.out⟩
      case round =>
       obtain ⟨i, hig, rfl, hq, hb⟩ := hrel
       have HB := hid hb
       have HQ2 := hid hq
       have z4 := (cell_of_block (block_keep HKA.out (keeps_below hb Non) (fun h => h)) 4).trans rfl
       have x4 := (cell_of_block (block_keep HKB.out (keeps_below hb Non) (fun h => h)) 4).trans rfl
       clear hb hq
       cases gk with
       | zero =>
        obtain rfl : nk = i := by omega
        have hge : ¬ (nk < nk) := by omega
        have HF : Hid (Q = true) := hid (by rw [← HQ2.out, List.drop_eq_nil_of_le (by have := HNK.out; omega), List.drop_eq_nil_of_le (by have := HNK.out; have := HNU.out; omega), eqL])
        go_wp2_with fail
        go_ret
        exact ⟨by rw [HF.out]; rfl, HB0.out.trans (HB.out.mono HB0.out.size)⟩
       | succ g =>
        have hlt : i < nk := by omega
        have hltI : (i : Int) < (nk : Int) := by omega
        have hi0 : (0 : Int) ≤ (i : Int) := by omega
        have hadd : IntKind.i64.wrap ((i : Int) + 1) = (i : Int) + 1 := IntWalk.i64_in _ (by have := HNM.out; omega)
        obtain ⟨t2, ht2, b3, o3, r3, hp3, _, hnr3, hnd3⟩ := HKC.out.at (kidPs_at b2 o2 nk i (by omega))
        obtain ⟨rfl, rfl⟩ : b2 = b3 ∧ o2 + i * 5 = o3 := by injection hp3 with h1 h2; exact ⟨h1, h2⟩
        obtain ⟨u2, hu2, b6, o6, r6, hp6, _, hnr6, hnd6⟩ := HJC.out.at (kidPs_at b5 o5 nk i (by omega))
        obtain ⟨rfl, rfl⟩ : b5 = b6 ∧ o5 + i * 5 = o6 := by injection hp6 with h1 h2; exact ⟨h1, h2⟩
        obtain rfl : ka = some ⟨b2, o2, none⟩ := by
         rcases HKD.out with h1 | h1
         ·omega
         ·exact h1
        obtain rfl : ja = some ⟨b5, o5, none⟩ := by
         rcases HJD.out with h1 | h1
         ·omega
         ·exact h1
        have HST : Hid ((t2.eqB u2 && eqL (t.kids.drop (i + 1)) (u.kids.drop (i + 1))) = Q) := hid (by rw [← HQ2.out, drop_at ht2, drop_at hu2, eqL])
        have HCC := hid (fun dq os => Calls.regrown_of (hih (hnd3.keep (S' := Any) (keeps_below (HB.out.trans ((below_regrown wr dq os).mono HB.out.size)) Non) (fun _ _ h => h) (fun _ h => h)) (hnd6.keep (S' := Any) (keeps_below (HB.out.trans ((below_regrown wr dq os).mono HB.out.size)) Non) (fun _ _ h => h) (fun _ h => h)) (by have h1 := cnt_mem ht2; have h2 := HM.out; have h3 := kids_cnt t; omega)))
        obtain ⟨B, hB⟩ : ∃ B, t2.eqB u2 = B := ⟨_, rfl⟩
        rw [hB] at HST HCC
        obtain ⟨y0, y1, y2, y3, y4⟩ := hnr3.keep (keeps_below HB.out Non) (fun h => h)
        obtain ⟨v0, v1, v2, v3, v4⟩ := hnr6.keep (keeps_below HB.out Non) (fun h => h)
        obtain ⟨k3, n3, x3, av3, kv3⟩ := r3
        obtain ⟨k6, n6, x6, av6, kv6⟩ := r6
        unfold nodeV at HCC
        dsimp only at y0 y1 y2 y3 y4 v0 v1 v2 v3 v4 HCC
        obtain ⟨s3, hs3⟩ : ∃ z, strB n3 = z := ⟨_, rfl⟩
        obtain ⟨q3, hq3⟩ : ∃ z, strB x3 = z := ⟨_, rfl⟩
        obtain ⟨s6, hs6⟩ : ∃ z, strB n6 = z := ⟨_, rfl⟩
        obtain ⟨q6, hq6⟩ : ∃ z, strB x6 = z := ⟨_, rfl⟩
        rw [hs3] at y1
        rw [hq3] at y2
        rw [hs6] at v1
        rw [hq6] at v2
        simp only [hs3, hq3, hs6, hq6] at HCC
        have cE := fun dq os => HCC.out dq os
        have cz := fun dq os => cell_regrown z4 dq os
        have cx := fun dq os => cell_regrown x4 dq os
        have cy0 := fun dq os => cell_regrown y0 dq os
        have cy1 := fun dq os => cell_regrown y1 dq os
        have cy2 := fun dq os => cell_regrown y2 dq os
        have cy3 := fun dq os => cell_regrown y3 dq os
        have cy4 := fun dq os => cell_regrown y4 dq os
        have cv0 := fun dq os => cell_regrown v0 dq os
        have cv1 := fun dq os => cell_regrown v1 dq os
        have cv2 := fun dq os => cell_regrown v2 dq os
        have cv3 := fun dq os => cell_regrown v3 dq os
        have cv4 := fun dq os => cell_regrown v4 dq os
        clear hp3 hnr3 hnd3 ht2 hu2 hp6 hnr6 hnd6 hB hs3 hq3 hs6 hq6 y0 y1 y2 y3 y4 v0 v1 v2 v3 v4 x4
        go_upto_region 6 with (fail)
        refine wp_region_quiet_below (by kernel_rfl) (by kernel_rfl) ?_
        repeat (go_big_quiet_step (with_reducible exact cE _ _))
        refine wpQuiet_nil ?_
        intro _ hw'
        obtain ⟨⟨dq, osq⟩, hw''⟩ := hw'
        subst hw''
        have HBR := hid (HB.out.trans ((below_regrown wr dq osq).mono HB.out.size))
        cases B with
        | false =>
         have HF : Hid (Q = false) := hid (by rw [← HST.out]; rfl)
         go_wp2_with fail
         go_ret
         exact ⟨by rw [HF.out]; rfl, HB0.out.trans (HBR.out.mono HB0.out.size)⟩
        | true =>
         have HN := hid (show eqL (t.kids.drop (i + 1)) (u.kids.drop (i + 1)) = Q by rw [← HST.out, Bool.true_and])
         go_wp2_with fail
         go_roundg g
         case measure => omega
         case rel => exact ⟨i + 1, by omega, rfl, HN.out, HBR.out⟩
     ·have hli : ((nk : Int) != (nj : Int)) = true := by rw [bne_iff_ne]; omega
      have HF : Hid (Q = false) := hid (by rw [HALL.out, decide_eq_false hl, Bool.and_false, Bool.false_and])
      rw [HF.out]
      go_enter Tryz.func22, Tryz.ntmps22
      go_wp2_with fail
      rw [HWA.out, HW0.out]
      with_reducible refine HAT.out.mono ?_
      rintro e w2 ⟨rfl, hb2⟩
      have HB2 := hid hb2
      have z4 := (cell_of_block (block_keep HKA.out (keeps_below hb2 Non) (fun h => h)) 4).trans rfl
      have x4 := (cell_of_block (block_keep HKB.out (keeps_below hb2 Non) (fun h => h)) 4).trans rfl
      clear hb2
      go_wp2_with fail
      go_ret
      exact ⟨rfl, HB0.out.trans (HB2.out.mono HB0.out.size)⟩
    | false =>
     have HF : Hid (Q = false) := hid (by rw [HALL.out, Bool.and_false, Bool.false_and, Bool.false_and])
     rw [HF.out]
     go_enter Tryz.func22, Tryz.ntmps22
     go_wp2_with fail
     rw [HWA.out, HW0.out]
     with_reducible refine HAT.out.mono ?_
     rintro e w2 ⟨rfl, hb2⟩
     have HB2 := hid hb2
     have z4 := (cell_of_block (block_keep HKA.out (keeps_below hb2 Non) (fun h => h)) 4).trans rfl
     have x4 := (cell_of_block (block_keep HKB.out (keeps_below hb2 Non) (fun h => h)) 4).trans rfl
     clear hb2
     go_wp2_with fail
     go_ret
     exact ⟨rfl, HB0.out.trans (HB2.out.mono HB0.out.size)⟩
   ·have hue : (st.toList == st2.toList) = false := bytes_ne hu
    have HF : Hid (Q = false) := hid (by rw [HALL.out, decide_eq_false hu, Bool.and_false, Bool.false_and, Bool.false_and, Bool.false_and])
    rw [HF.out]
    go_enter Tryz.func22, Tryz.ntmps22
    go_wp2_with fail
    go_ret
    exact ⟨rfl, by rw [HWA.out, HW0.out]; exact HB0.out⟩
  ·have hse : (sn.toList == sn2.toList) = false := bytes_ne hs
   have HF : Hid (Q = false) := hid (by rw [HALL.out, decide_eq_false hs, Bool.and_false, Bool.false_and, Bool.false_and, Bool.false_and, Bool.false_and])
   rw [HF.out]
   go_enter Tryz.func22, Tryz.ntmps22
   go_wp2_with fail
   go_ret
   exact ⟨rfl, by rw [HWA.out, HW0.out]; exact HB0.out⟩
 ·have hke : (k != k2) = true := bne_iff_ne.2 hk
  have HF : Hid (Q = false) := hid (by rw [HALL.out, decide_eq_false hk, Bool.false_and, Bool.false_and, Bool.false_and, Bool.false_and, Bool.false_and])
  rw [HF.out]
  go_enter Tryz.func22, Tryz.ntmps22
  go_wp2_with fail
  go_ret
  exact ⟨rfl, by rw [HWA.out, HW0.out]; exact HB0.out⟩
theorem rsame_calls : ∀ (m : Nat) {w : World} {r1 r2 : Nr} {t u : Tr}, NodeIn w Any r1 t → NodeIn w Any r2 u → t.count ≤ m → m ≤ 1000000 → Calls Tryz.prog 22 #[nodeV r1, nodeV r2] w (Leaves (.bool (t.eqB u)) w)
 | 0, _, _, _, t, _, _, _, h0, _ => by have := count_pos t; omega
 | m + 1, _, _, _, _, _, h1, h2, hm, hmm => rsame_step (fun h3 h4 h5 => rsame_calls m h3 h4 h5 (by omega)) h1 h2 hm hmm
end Go.Proofs.YtjpkkflhcjjefaaGreatDoor
