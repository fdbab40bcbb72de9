/-
  The walk of the law SegLasts at every script and all tails. Conditions: the slices lead to what they are said to, no longer than 2 to the 47; the library's table of powers of ten is laid; errors.errorType holds its handle.
-/
import Derived.Test.YtjhiekijbcjohaaGreatDoorSGath
import Derived.Test.YtjhiekijbcjohaaGreatDoorFCode
namespace Go.Proofs.YtjhiekijbcjohaaGreatDoor
open Go.RowKit Go.Lib Go.Joins

def sl0 : Dsk := (createB (dsk0 1048576) 3).2
theorem sl0_ok : (createB (dsk0 1048576) 3).1 = 0 := by decide +kernel
theorem sl0_file : fnd (nameB 3) sl0.L = some ⟨nameB 3, headB 3, 12⟩ := by kernel_rfl
theorem sl0_kept : Kept sl0 3 ⟨12, false⟩ [] [] :=
  ⟨⟨_, [], sl0_file, by rw [frs, List.append_nil, List.append_nil], List.nil_prefix, by decide, by decide, fun _ => rfl⟩, fun _ => rfl, fun r hr => (by cases hr), fun r hr => (by cases hr)⟩

set_option maxRecDepth 100000 in
set_option maxHeartbeats 16000000 in
theorem law_lasts (a : Option Addr) (l : List SDoI) (n c : Nat) (at_ : Option Addr) (ts : List Int) (m ct : Nat) (w : World) (ht : Tab w) (hgd : Handle w) (hl : SDos w (Was0 w) a l) (hn : l.length = n) (hb : n ≤ 140737488355328) (hts : RowI w (Was0 w) at_ ts) (hm : ts.length = m) (hct : m ≤ ct) :
    Calls Tryz.prog 5 #[.slice a n c, .slice at_ m ct] w (Leaves (.bool true) w) := by
  have HTAB := Lib.hid ht
  have HGD := Lib.hid hgd
  have HDO := Lib.hid hl
  have HN := Lib.hid hn
  have HTS := Lib.hid hts
  have HM := Lib.hid hm
  have HCT := Lib.hid hct
  clear ht hgd hl hn hts hm hct
  go_enter Tryz.func5, Tryz.ntmps5
  go_wp2_with fail
  with_reducible refine (awake_calls w HTAB.out).mono ?_
  rintro e w1 ⟨rfl, hb1⟩
  have HB1 := Lib.hid hb1
  clear hb1
  obtain ⟨q, hq⟩ : ∃ q, smallS l 0 = q := ⟨_, rfl⟩
  have hsc := ssmall_calls a l c n w1 (HDO.out.below HB1.out) HN.out (by omega)
  rw [hq] at hsc
  have HSC := Lib.hid hsc
  have HQ := Lib.hid hq
  clear hsc hq
  go_wp2_with fail
  with_reducible refine HSC.out.mono ?_
  rintro e w2 ⟨rfl, rfl⟩
  clear HSC
  cases q with
  | false =>
    go_wp2
    go_ret
    exact ⟨rfl, HB1.out⟩
  | true =>
  by_cases hbig : 100 < m
  · have hd1 : decide ((m : Int) > 100) = true := by simp; omega
    go_wp2
    go_ret
    exact ⟨rfl, HB1.out⟩
  have hd1 : decide ((m : Int) > 100) = false := by simp; omega
  go_wp2_with fail
  with_reducible refine (new_calls 1048576 _ (by decide)).mono ?_
  rintro e w2 ⟨B, S1, rfl, hd2, hf2, hb2⟩
  have HL2 : Hid (Live w w2 S1 B (dsk0 1048576)) := Lib.hid (Live.born HB1.out hd2 hf2 hb2)
  clear hd2 hf2 hb2 HB1
  have hc3 := screate_calls (n := 3) HL2.out HTAB.out (by decide) (few_dsk0 (by decide)) (by decide) (by decide)
  rw [sl0_ok, if_pos rfl] at hc3
  have HC3 := Lib.hid hc3
  clear hc3
  go_wp2_with fail
  with_reducible refine HC3.out.mono ?_
  rintro e w3 ⟨v3, ev3, rfl, herr3, S3, hl3, hf3, hk3, b, rfl, hbw, hbS, hg3⟩
  obtain rfl : ev3 = .nilIface := by
    rcases herr3 with ⟨_, h⟩ | ⟨h, _⟩
    · exact h
    · exact absurd rfl h
  have HSL0 : Hid (SL w w3 S3 b B 0 sl0 ⟨12, false⟩ [] [] [] [] (.slice none 0 0) none 0) := Lib.hid
    ⟨hl3, hg3, hbS, Nat.le_trans HL2.out.bel.size hbw, Gath.nil _ _ _ _, ⟨[], RCells.nil _ _, .inl rfl⟩, fun _ => rfl, Nat.le_refl _, Nat.zero_le _, sl0_kept, ((few_dsk0 (by decide)).create 3).mono (by omega) (by omega), Nat.zero_le _, Nat.zero_le _⟩
  clear herr3 hl3 hf3 hk3 hbw hbS hg3 HL2 HC3
  go_wp2
  go_loopg [8, 9, 10] n (fun gm kv mv idx wr => ∃ (i : Nat) (S : Nat → Prop) (d : Dsk) (g : Sg) (K M : List (List Nat)) (am : Option Addr) (cm : Nat), idx = .int .i64 (i : Int) ∧ mv = .slice am M.length cm ∧ gm + i = n ∧ i ≤ 30 ∧ SL w wr S b B i d g K K M M kv am cm)
  case atStart => exact ⟨0, S3, _, _, [], [], none, 0, rfl, rfl, rfl, by decide, HSL0.out⟩
  case round =>
    obtain ⟨i, S, d, g, K, M, am, cm, rfl, rfl, hg, hi30, hsl⟩ := hrel
    have HG := Lib.hid hg
    have HSL := Lib.hid hsl
    clear hg hsl HSL0
    by_cases hlt : i < n ∧ i < 30
    · obtain ⟨hlt, h30⟩ := hlt
      obtain ⟨g', rfl⟩ : ∃ g', gk = g' + 1 := ⟨gk - 1, by have := HG.out; omega⟩
      have hdd : decide ((i : Int) < (n : Int)) = true := by simp; omega
      have hdd3 : decide ((i : Int) < 30) = true := by simp; omega
      obtain ⟨x, hx⟩ : ∃ x, l[i]? = some x := ⟨l[i]'(by rw [HN.out]; exact hlt), List.getElem?_eq_getElem _⟩
      have HXS : Hid (SDoS x) := Lib.hid (smallS_at HQ.out hx (by omega))
      obtain ⟨xb, xo, dc, rfl, hxb, hdv, c0, c1, c2, c3⟩ := sdos_at HDO.out hx
      have HDV := Lib.hid hdv
      have hbw := HSL.out.live.bel
      have k0 : wr.cell? ⟨xb, xo + i * 4, none⟩ = some (.int .i64 x.kind) := (hbw.cell (p := ⟨xb, xo + i * 4, none⟩) hxb).trans c0
      have k1 : wr.cell? ⟨xb, xo + i * 4 + 1, none⟩ = some (.slice dc.ar x.recs.length dc.cr) := (hbw.cell (p := ⟨xb, xo + i * 4 + 1, none⟩) hxb).trans c1
      have k2 : wr.cell? ⟨xb, xo + i * 4 + 2, none⟩ = some (.slice dc.at_ x.tails.length dc.ct) := (hbw.cell (p := ⟨xb, xo + i * 4 + 2, none⟩) hxb).trans c2
      have k3 : wr.cell? ⟨xb, xo + i * 4 + 3, none⟩ = some (.slice dc.al x.list.length dc.cl) := (hbw.cell (p := ⟨xb, xo + i * 4 + 3, none⟩) hxb).trans c3
      obtain ⟨W1, hW1⟩ : ∃ W, wr.alloc (.cells (sdoA x dc) 56) = W := ⟨_, rfl⟩
      have hb1 : Below wr.heap.size wr W1 := by rw [← hW1]; exact (Below.refl _ _).alloc (Nat.le_refl _) _
      have hF : W1.heap[wr.heap.size]? = some (.cells (sdoA x dc) 56 (0, 0)) := by rw [← hW1]; exact heap_alloc_new wr _
      have HF := Lib.hid hF
      have HSL1 := Lib.hid (HSL.out.below hb1)
      have HNS : Hid (¬ (S wr.heap.size ∨ wr.heap.size = b)) := Lib.hid (by
        rintro (h | h)
        · have := HSL.out.live.disk.2.1 _ h; omega
        · have := HSL.out.blt; omega)
      obtain ⟨F, hFF⟩ : ∃ F, wr.heap.size = F := ⟨_, rfl⟩
      have HFC : Hid (∀ W, Keeps (fun k => S k ∨ k = b) W1 W → W.heap[F]? = some (.cells (sdoA x dc) 56 (0, 0))) := Lib.hid (fun W hk => by
        rw [← hFF]
        exact block_keep HF.out hk HNS.out)
      obtain ⟨xk, hxk⟩ : ∃ y, x.kind = y := ⟨_, rfl⟩
      obtain ⟨z1, hz1⟩ : ∃ y, x.recs.length = y := ⟨_, rfl⟩
      obtain ⟨z3, hz3⟩ : ∃ y, x.tails.length = y := ⟨_, rfl⟩
      obtain ⟨z4, hz4⟩ : ∃ y, x.list.length = y := ⟨_, rfl⟩
      have hda : sdoA x dc = #[.int .i64 xk, .slice dc.ar z1 dc.cr, .slice dc.at_ z3 dc.ct, .slice dc.al z4 dc.cl] := by rw [← hxk, ← hz1, ← hz3, ← hz4]
      rw [hda] at HFC hW1
      rw [hxk] at k0
      rw [hz1] at k1
      rw [hz3] at k2
      rw [hz4] at k3
      have HZ1 := Lib.hid hz1
      have HZ4 := Lib.hid hz4
      have hF1 := HFC.out W1 (Keeps.refl _ _)
      have g0 : W1.cell? ⟨F, 0, none⟩ = some (.int .i64 xk) := (cell_of_block hF1 0).trans rfl
      have g1 : W1.cell? ⟨F, 1, none⟩ = some (.slice dc.ar z1 dc.cr) := (cell_of_block hF1 1).trans rfl
      have g3 : W1.cell? ⟨F, 3, none⟩ = some (.slice dc.al z4 dc.cl) := (cell_of_block hF1 3).trans rfl
      clear hF1
      clear hxk hz1 hz3 hz4 hda hx hdv c0 c1 c2 c3 hb1 hF hbw HF HNS
      by_cases e1 : xk = 1
      · subst e1
        have hrt : RowT W1 (Was0 w) dc.al x.list := HDV.out.list.keep ((keeps_below HSL1.out.live.bel Non)) (fun _ _ h => h)
        have harm := arm_calls dc.al x.list dc.cl z4 W1 HSL1.out.live.disk hrt HZ4.out (fun k hk => ⟨fun hs => by have h1 := HSL1.out.live.own k hs; have h2 : k < w.heap.size := hk; omega, Nat.lt_of_lt_of_le hk HSL1.out.live.bel.size⟩) (by have h1 := HXS.out.list; have h2 := HZ4.out; omega) HDV.out.wf
        have HARM := Lib.hid harm
        clear hrt harm
        go_wp2_with fail
        with_reducible refine HARM.out.mono ?_
        rintro e w4 ⟨rfl, ht4⟩
        obtain ⟨S4, hsl4, hf4, hk4⟩ := HSL1.out.armed x.list ht4
        have HSL4 := Lib.hid hsl4.next
        have hF4 := HFC.out w4 hk4
        clear ht4 hsl4 hf4 hk4 HARM HFC HSL HSL1
        have f0 : w4.cell? ⟨F, 0, none⟩ = some (.int .i64 1) := (cell_of_block hF4 0).trans rfl
        clear hF4
        go_wp2
        go_roundg g'
        case measure => omega
        case rel => exact ⟨i + 1, S4, _, g, K, M, am, cm, by go_num, rfl, by have := HG.out; omega, by omega, HSL4.out⟩
      by_cases e0 : xk = 0
      case neg =>
        have q1 : (xk == 1) = false := by simpa using e1
        have q0 : (xk == 0) = false := by simpa using e0
        have q2 : (xk != 0) = true := by simpa using e0
        have HSLN := Lib.hid HSL1.out.next
        clear HSL HFC HSL1
        go_wp2
        go_roundg g'
        case measure => omega
        case rel => exact ⟨i + 1, S, d, g, K, M, am, cm, by go_num, rfl, by have := HG.out; omega, by omega, HSLN.out⟩
      subst e0
      clear e1
      have HSK := Lib.hid (ssick_calls HSL1.out.seg)
      obtain ⟨z, sk⟩ := g
      dsimp only at HSK
      cases sk with
      | true =>
        have HSLN := Lib.hid HSL1.out.next
        clear HSL HFC HSL1
        go_wp2_with fail
        with_reducible refine HSK.out.mono ?_
        rintro e w4 ⟨rfl, rfl⟩
        go_wp2
        go_roundg g'
        case measure => omega
        case rel => exact ⟨i + 1, S, d, _, K, M, am, cm, by go_num, rfl, by have := HG.out; omega, by omega, HSLN.out⟩
      | false =>
        have HKL : Hid (K.length ≤ 50 * i) := Lib.hid HSL1.out.klen
        have HRC : Hid (∀ W, Below w.heap.size w W → Recs W (Was0 w) dc.ar x.recs) := Lib.hid (fun W hb => HDV.out.recs.keep (keeps_below hb Non) (fun _ _ h => h))
        have HBY : Hid (∀ r ∈ x.recs, Byts r) := Lib.hid (fun r hr => by
          obtain ⟨j, hj⟩ := List.mem_iff_getElem?.1 hr
          obtain ⟨_, _, _, _, _, _, _, h, _⟩ := recs_at HDV.out.recs hj
          exact h.1)
        have happ := sappend_calls dc.ar x.recs dc.cr z1 HSL1.out.live HTAB.out HSL1.out.seg HSL1.out.off HSL1.out.own HSL1.out.few (by have h1 := HXS.out.recs; have h2 := HXS.out.tot; have h3 := HZ1.out; omega) (by omega) (HRC.out _ HSL1.out.live.bel) HZ1.out (HSL1.out.size rfl (by omega))
        obtain ⟨A, hA⟩ : ∃ A, appendB d 3 ⟨z, false⟩ x.recs = A := ⟨_, rfl⟩
        have HTN := Lib.hid (fun W (hw : WSt w W1 W S b B 3 A.2.2 A.2.1) => HSL1.out.appended rfl HBY.out HXS.out.recs HXS.out.tot (by rw [hA]; exact hw))
        rw [hA] at happ HTN
        have HAPP := Lib.hid happ
        clear happ hA
        obtain ⟨cA, gA, dA⟩ := A
        dsimp only at HAPP HTN
        go_wp2_with fail
        with_reducible refine HSK.out.mono ?_
        rintro e w4 ⟨rfl, rfl⟩
        go_wp2_with fail
        with_reducible refine HAPP.out.mono ?_
        rintro e w5 ⟨ev, rfl, herr5, hw5⟩
        obtain ⟨S5, K3, M3, hsl5, hf5, hk5, e1, e2, e3⟩ := HTN.out w5 hw5
        have HSL5 := Lib.hid hsl5
        have HF5 := Lib.hid (HFC.out w5 hk5)
        have HCD := Lib.hid (code_calls cA 3 ev w5 herr5 (HGD.out.below hsl5.live.bel))
        have HE1 := Lib.hid e1
        have HE2 := Lib.hid e2
        have HE3 := Lib.hid e3
        clear herr5 hw5 hsl5 hf5 hk5 e1 e2 e3 g0 g1 g3 HFC HAPP HTN HSK HSL HSL1
        go_wp2_with fail
        with_reducible refine HCD.out.mono ?_
        rintro e w6 ⟨rfl, hb6⟩
        have HSL6 := Lib.hid (HSL5.out.below hb6)
        have hF6 := block_below hb6 HF5.out
        have f1 : w6.cell? ⟨F, 1, none⟩ = some (.slice dc.ar z1 dc.cr) := (cell_of_block hF6 1).trans rfl
        clear hb6 hF6 HF5 HCD HSL5
        by_cases hc0 : cA = 0
        · subst hc0
          obtain ⟨rfl, rfl⟩ := HE1.out rfl
          obtain ⟨v7, w7, hrun7, hg7, O7, hk7, hO7⟩ := HSL6.out.gath.append HSL6.out.live HSL6.out.blt (HRC.out w6 HSL6.out.live.bel) HZ1.out HDV.out.nr (by have h1 := HKL.out; have h2 := HXS.out.recs; have h3 := HZ1.out; omega)
          have HRUN7 := Lib.hid hrun7
          have HSL7 := Lib.hid (HSL6.out.more hg7 hk7 hO7 (by have h1 := HKL.out; have h2 := HXS.out.recs; rw [List.length_append]; omega))
          clear hrun7 hg7 hk7 hO7 HSL6 HE1 HE2 HE3
          go_wp2_with (at_builtin; refine wpList_step (fun K hK => step_app HRUN7.out (.tmp 74) (.tmp 76) rfl rfl rfl rfl (hK _ _ ?_)))
          go_wp2
          go_roundg g'
          case measure => omega
          case rel => exact ⟨i + 1, S5, dA, gA, _, _, am, cm, by go_num, rfl, by have := HG.out; omega, by omega, HSL7.out⟩
        · have q0 : (cA == 0) = false := by simpa using hc0
          have HSK6 := Lib.hid (ssick_calls HSL6.out.seg)
          go_wp2_with fail
          with_reducible refine HSK6.out.mono ?_
          rintro e w7 ⟨rfl, rfl⟩
          obtain ⟨zA, sA⟩ := gA
          cases sA with
          | false =>
            obtain ⟨rfl, rfl⟩ := HE2.out hc0 rfl
            dsimp only
            go_wp2
            go_roundg g'
            case measure => omega
            case rel => exact ⟨i + 1, S5, dA, _, _, _, am, cm, by go_num, rfl, by have := HG.out; omega, by omega, HSL6.out⟩
          | true =>
            obtain ⟨rfl, rfl⟩ := HE3.out hc0 rfl
            have HSL7 := Lib.hid (HSL6.out.maybe (HRC.out w7 HSL6.out.live.bel) HDV.out.nr HDV.out.lr HDV.out.mr HXS.out.recs)
            dsimp only
            go_wp2
            go_roundg g'
            case measure => omega
            case rel => exact ⟨i + 1, S5, dA, _, _, x.recs, dc.ar, dc.cr, by go_num, by rw [HZ1.out], by have := HG.out; omega, by omega, HSL7.out⟩
    · by_cases hin : i < n
      · have hdd : decide ((i : Int) < (n : Int)) = true := by simp; omega
        have hdd3 : decide ((i : Int) < 30) = false := by simp; omega
        have hrt : RowI wr (Was0 w) at_ ts := HTS.out.keep (keeps_below HSL.out.live.bel Non) (fun _ _ h => h)
        have hcr := crash_calls at_ ts ct m wr HSL.out.live.disk (Nat.le_trans HSL.out.few.used (by omega)) hrt HM.out (fun k hk hs => by have h1 := HSL.out.live.own k hs; have h2 : k < w.heap.size := hk; omega) HCT.out (by omega)
        have HCR := Lib.hid hcr
        have hklen := HSL.out.klen
        have hmlen := HSL.out.mlen
        clear hrt hcr
        go_wp2_with fail
        with_reducible refine HCR.out.mono ?_
        rintro e w4 ⟨rfl, ht4⟩
        obtain ⟨S4, hl4, hf4, hk4⟩ := HSL.out.live.turns ht4
        have HG4 : Hid (Gath w w4 S4 b _ K) := Lib.hid (HSL.out.gath.keep hk4 HSL.out.live.own (fun _ e => .inl e) hf4)
        have HMY4 : Hid (Recs w4 (Was0 w) am M) := Lib.hid (HSL.out.may.keep hk4 (fun k e he => by have h1 := HSL.out.live.own k he; have h2 : k < w.heap.size := e; omega))
        have hop := sopen_calls (n := 3) hl4 HTAB.out (HSL.out.few.crash ts) (by omega) (by omega)
        obtain ⟨h0, ii, hR⟩ := HSL.out.kept.found (by decide) ts
        rw [h0, hR] at hop
        obtain ⟨R, hRR⟩ : ∃ R, M.take ii = R := ⟨_, rfl⟩
        rw [hRR] at hop
        have HRM : Hid (R = M.take R.length ∧ R.length ≤ M.length) := Lib.hid (by
          rw [← hRR, List.length_take]
          refine ⟨?_, by omega⟩
          rcases Nat.le_total ii M.length with h | h
          · rw [Nat.min_eq_left h]
          · rw [Nat.min_eq_right h, List.take_of_length_le h, List.take_of_length_le (Nat.le_refl _)])
        have HOP := Lib.hid hop
        have HMC : Hid ((∀ f ∈ K, f.length ≤ 1073741824) ∧ (∀ f ∈ R, f.length ≤ 1073741824)) := Lib.hid ⟨fun f hf => Nat.le_trans (HSL.out.kept.kept f hf).2 (by decide), fun f hf => Nat.le_trans (HSL.out.kept.may f (by rw [← hRR] at hf; exact List.mem_of_mem_take hf)).2 (by decide)⟩
        have hmcap := HSL.out.mcap
        have HMN := Lib.hid HSL.out.mnil
        have HOW4 := Lib.hid hl4.own
        clear ht4 hl4 hf4 hk4 hop h0 hR hRR HSL HCR
        go_wp2_with fail
        with_reducible refine HOP.out.mono ?_
        rintro e w5 ⟨v5, ev5, a5, c5, SR, rfl, herr5, ⟨S5, hl5, hf5, hk5, -⟩, hr5, hSR5, hn5, hlc5, hcm5⟩
        have HG5 : Hid (Gath w w5 S5 b _ K) := Lib.hid (HG4.out.keep hk5 HOW4.out (fun _ e => .inl e) hf5)

        have HMY5 : Hid (Recs w5 (Was0 w) am M) := Lib.hid (HMY4.out.keep hk5 (fun k e he => by have h1 := HOW4.out k he; have h2 : k < w.heap.size := e; omega))
        have HL5 := Lib.hid hl5.bel
        have HCD := Lib.hid (code_calls 0 3 ev5 w5 herr5 (HGD.out.below hl5.bel))
        obtain ⟨ak, ck, SK, rfl, hrk, hnk, hck, hmk⟩ := HG5.out.form
        obtain ⟨kl, hkl⟩ : ∃ y, K.length = y := ⟨_, rfl⟩
        obtain ⟨rl, hrl⟩ : ∃ y, R.length = y := ⟨_, rfl⟩
        obtain ⟨ml, hml⟩ : ∃ y, M.length = y := ⟨_, rfl⟩
        have hlen : (K ++ R).length = kl + rl := by rw [List.length_append, hkl, hrl]
        rw [hlen] at hlc5 ⊢
        have HKL := Lib.hid hkl
        have HRL := Lib.hid hrl
        have HRK := Lib.hid hrk
        have HR5 := Lib.hid hr5
        have hrm := HRM.out
        rw [hrl] at hrm
        have HRM2 := Lib.hid hrm.1
        have hrlm : rl ≤ ml := by have := hrm.2; omega
        rw [hkl] at hklen hck ⊢
        rw [hml] at hmlen hmcap ⊢
        clear HG4 HMY4 HOP HRM hrm hr5 hrk hl5 hf5 hk5 HG5 herr5 hlen hkl hrl hml
        go_wp2_with fail
        with_reducible refine HCD.out.mono ?_
        rintro e w6 ⟨rfl, hb6⟩
        have HB6 := Lib.hid hb6
        clear HCD hb6
        have hge : decide (((kl + rl : Nat) : Int) < (kl : Int)) = false := by simp; omega
        have hs1 : kl ≤ c5 := by omega
        have hi1 : (kl : Int) ≤ (c5 : Int) := by omega
        have hi0 : (0 : Int) ≤ (kl : Int) := by omega
        have hrec1 := records_calls a5 ak K K c5 ck kl kl w6 (by have h1 := (HR5.out.below HB6.out).take kl; rw [← HKL.out, List.take_left] at h1; exact h1) (HRK.out.below HB6.out) HKL.out HKL.out (by omega) (by omega) HMC.out.1 HMC.out.1
        rw [decide_eq_true rfl] at hrec1
        have HREC1 := Lib.hid hrec1
        clear hrec1
        go_wp2_with fail
        with_reducible refine HREC1.out.mono ?_
        rintro e w7 ⟨rfl, kk, rfl⟩
        have hs3 : rl ≤ cm := by omega
        have hi3 : (rl : Int) ≤ (cm : Int) := by omega
        have hi2 : (0 : Int) ≤ (rl : Int) := by omega
        have hle : decide ((rl : Int) ≤ (ml : Int)) = true := by simp; omega
        have HREC2 : Hid (∀ a' c', Recs (w6.drewN kk) SR a' R → Calls Tryz.prog 34 #[.slice a' rl c', .slice am rl cm] (w6.drewN kk) (Tells (.bool true) (w6.drewN kk))) := Lib.hid (fun a' c' h => by
          have h1 := records_calls a' am R R c' cm rl rl (w6.drewN kk) h (by have h2 := ((HMY5.out.below HB6.out).draws kk).take rl; rw [← HRM2.out] at h2; exact h2) HRL.out HRL.out (by omega) (by omega) HMC.out.2 HMC.out.2
          rw [decide_eq_true rfl] at h1
          exact h1)
        have HFIN : Hid (∀ k, Below w.heap.size w (w6.drewN k)) := Lib.hid (fun k => below_then (below_then HL5.out HB6.out) (below_drewN w6 k))
        have HRD := Lib.hid ((HR5.out.below HB6.out).draws kk)
        clear hge HREC1 HMY5 HL5 HR5 HRK HMC HRM2
        cases a5 with
        | none =>
          obtain rfl : c5 = 0 := hn5 rfl
          obtain rfl : kl = 0 := by omega
          obtain rfl : rl = 0 := by omega
          have h2 := HREC2.out none 0 (by rw [List.length_eq_zero_iff.1 HRL.out]; exact ⟨[], RCells.nil _ _, .inl rfl⟩)
          have HR2 := Lib.hid h2
          clear h2 HREC2 HRD
          go_wp2_with fail
          with_reducible refine HR2.out.mono ?_
          rintro e w8 ⟨rfl, k8, rfl⟩
          go_wp2
          go_ret
          exact ⟨rfl, HFIN.out _⟩
        | some ad =>
          by_cases hcc : c5 = kl
          · subst hcc
            obtain rfl : rl = 0 := by omega
            have h2 := HREC2.out (some ad) 0 (by rw [List.length_eq_zero_iff.1 HRL.out]; exact ⟨[], RCells.nil _ _, .inl rfl⟩)
            have HR2 := Lib.hid h2
            clear h2 HREC2 HRD
            go_wp2_with fail
            with_reducible refine HR2.out.mono ?_
            rintro e w8 ⟨rfl, k8, rfl⟩
            go_wp2
            go_ret
            exact ⟨rfl, HFIN.out _⟩
          · have hck2 : kl < c5 := by omega
            have h2 := HREC2.out (some (ad.add kl)) (c5 - kl) (by
              by_cases hz : R = []
              · rw [hz]; exact ⟨[], RCells.nil _ _, .inl rfl⟩
              · obtain ⟨_, _, h | ⟨b7, o7, h, _⟩⟩ := HRD.out
                · exact absurd (List.append_eq_nil_iff.1 h).2 hz
                · obtain rfl := Option.some.inj h
                  have h3 := HRD.out.drop kl
                  rw [← HKL.out, List.drop_left] at h3
                  rw [Addr.add_mid, ← HKL.out]
                  exact h3)
            have HR2 := Lib.hid h2
            clear h2 HREC2 HRD
            go_wp2_with fail
            with_reducible refine HR2.out.mono ?_
            rintro e w8 ⟨rfl, k8, rfl⟩
            go_wp2
            go_ret
            exact ⟨rfl, HFIN.out _⟩
      · have hdd : decide ((i : Int) < (n : Int)) = false := by simp; omega
        have hrt : RowI wr (Was0 w) at_ ts := HTS.out.keep (keeps_below HSL.out.live.bel Non) (fun _ _ h => h)
        have hcr := crash_calls at_ ts ct m wr HSL.out.live.disk (Nat.le_trans HSL.out.few.used (by omega)) hrt HM.out (fun k hk hs => by have h1 := HSL.out.live.own k hs; have h2 : k < w.heap.size := hk; omega) HCT.out (by omega)
        have HCR := Lib.hid hcr
        have hklen := HSL.out.klen
        have hmlen := HSL.out.mlen
        clear hrt hcr
        go_wp2_with fail
        with_reducible refine HCR.out.mono ?_
        rintro e w4 ⟨rfl, ht4⟩
        obtain ⟨S4, hl4, hf4, hk4⟩ := HSL.out.live.turns ht4
        have HG4 : Hid (Gath w w4 S4 b _ K) := Lib.hid (HSL.out.gath.keep hk4 HSL.out.live.own (fun _ e => .inl e) hf4)
        have HMY4 : Hid (Recs w4 (Was0 w) am M) := Lib.hid (HSL.out.may.keep hk4 (fun k e he => by have h1 := HSL.out.live.own k he; have h2 : k < w.heap.size := e; omega))
        have hop := sopen_calls (n := 3) hl4 HTAB.out (HSL.out.few.crash ts) (by omega) (by omega)
        obtain ⟨h0, ii, hR⟩ := HSL.out.kept.found (by decide) ts
        rw [h0, hR] at hop
        obtain ⟨R, hRR⟩ : ∃ R, M.take ii = R := ⟨_, rfl⟩
        rw [hRR] at hop
        have HRM : Hid (R = M.take R.length ∧ R.length ≤ M.length) := Lib.hid (by
          rw [← hRR, List.length_take]
          refine ⟨?_, by omega⟩
          rcases Nat.le_total ii M.length with h | h
          · rw [Nat.min_eq_left h]
          · rw [Nat.min_eq_right h, List.take_of_length_le h, List.take_of_length_le (Nat.le_refl _)])
        have HOP := Lib.hid hop
        have HMC : Hid ((∀ f ∈ K, f.length ≤ 1073741824) ∧ (∀ f ∈ R, f.length ≤ 1073741824)) := Lib.hid ⟨fun f hf => Nat.le_trans (HSL.out.kept.kept f hf).2 (by decide), fun f hf => Nat.le_trans (HSL.out.kept.may f (by rw [← hRR] at hf; exact List.mem_of_mem_take hf)).2 (by decide)⟩
        have hmcap := HSL.out.mcap
        have HMN := Lib.hid HSL.out.mnil
        have HOW4 := Lib.hid hl4.own
        clear ht4 hl4 hf4 hk4 hop h0 hR hRR HSL HCR
        go_wp2_with fail
        with_reducible refine HOP.out.mono ?_
        rintro e w5 ⟨v5, ev5, a5, c5, SR, rfl, herr5, ⟨S5, hl5, hf5, hk5, -⟩, hr5, hSR5, hn5, hlc5, hcm5⟩
        have HG5 : Hid (Gath w w5 S5 b _ K) := Lib.hid (HG4.out.keep hk5 HOW4.out (fun _ e => .inl e) hf5)

        have HMY5 : Hid (Recs w5 (Was0 w) am M) := Lib.hid (HMY4.out.keep hk5 (fun k e he => by have h1 := HOW4.out k he; have h2 : k < w.heap.size := e; omega))
        have HL5 := Lib.hid hl5.bel
        have HCD := Lib.hid (code_calls 0 3 ev5 w5 herr5 (HGD.out.below hl5.bel))
        obtain ⟨ak, ck, SK, rfl, hrk, hnk, hck, hmk⟩ := HG5.out.form
        obtain ⟨kl, hkl⟩ : ∃ y, K.length = y := ⟨_, rfl⟩
        obtain ⟨rl, hrl⟩ : ∃ y, R.length = y := ⟨_, rfl⟩
        obtain ⟨ml, hml⟩ : ∃ y, M.length = y := ⟨_, rfl⟩
        have hlen : (K ++ R).length = kl + rl := by rw [List.length_append, hkl, hrl]
        rw [hlen] at hlc5 ⊢
        have HKL := Lib.hid hkl
        have HRL := Lib.hid hrl
        have HRK := Lib.hid hrk
        have HR5 := Lib.hid hr5
        have hrm := HRM.out
        rw [hrl] at hrm
        have HRM2 := Lib.hid hrm.1
        have hrlm : rl ≤ ml := by have := hrm.2; omega
        rw [hkl] at hklen hck ⊢
        rw [hml] at hmlen hmcap ⊢
        clear HG4 HMY4 HOP HRM hrm hr5 hrk hl5 hf5 hk5 HG5 herr5 hlen hkl hrl hml
        go_wp2_with fail
        with_reducible refine HCD.out.mono ?_
        rintro e w6 ⟨rfl, hb6⟩
        have HB6 := Lib.hid hb6
        clear HCD hb6
        have hge : decide (((kl + rl : Nat) : Int) < (kl : Int)) = false := by simp; omega
        have hs1 : kl ≤ c5 := by omega
        have hi1 : (kl : Int) ≤ (c5 : Int) := by omega
        have hi0 : (0 : Int) ≤ (kl : Int) := by omega
        have hrec1 := records_calls a5 ak K K c5 ck kl kl w6 (by have h1 := (HR5.out.below HB6.out).take kl; rw [← HKL.out, List.take_left] at h1; exact h1) (HRK.out.below HB6.out) HKL.out HKL.out (by omega) (by omega) HMC.out.1 HMC.out.1
        rw [decide_eq_true rfl] at hrec1
        have HREC1 := Lib.hid hrec1
        clear hrec1
        go_wp2_with fail
        with_reducible refine HREC1.out.mono ?_
        rintro e w7 ⟨rfl, kk, rfl⟩
        have hs3 : rl ≤ cm := by omega
        have hi3 : (rl : Int) ≤ (cm : Int) := by omega
        have hi2 : (0 : Int) ≤ (rl : Int) := by omega
        have hle : decide ((rl : Int) ≤ (ml : Int)) = true := by simp; omega
        have HREC2 : Hid (∀ a' c', Recs (w6.drewN kk) SR a' R → Calls Tryz.prog 34 #[.slice a' rl c', .slice am rl cm] (w6.drewN kk) (Tells (.bool true) (w6.drewN kk))) := Lib.hid (fun a' c' h => by
          have h1 := records_calls a' am R R c' cm rl rl (w6.drewN kk) h (by have h2 := ((HMY5.out.below HB6.out).draws kk).take rl; rw [← HRM2.out] at h2; exact h2) HRL.out HRL.out (by omega) (by omega) HMC.out.2 HMC.out.2
          rw [decide_eq_true rfl] at h1
          exact h1)
        have HFIN : Hid (∀ k, Below w.heap.size w (w6.drewN k)) := Lib.hid (fun k => below_then (below_then HL5.out HB6.out) (below_drewN w6 k))
        have HRD := Lib.hid ((HR5.out.below HB6.out).draws kk)
        clear hge HREC1 HMY5 HL5 HR5 HRK HMC HRM2
        cases a5 with
        | none =>
          obtain rfl : c5 = 0 := hn5 rfl
          obtain rfl : kl = 0 := by omega
          obtain rfl : rl = 0 := by omega
          have h2 := HREC2.out none 0 (by rw [List.length_eq_zero_iff.1 HRL.out]; exact ⟨[], RCells.nil _ _, .inl rfl⟩)
          have HR2 := Lib.hid h2
          clear h2 HREC2 HRD
          go_wp2_with fail
          with_reducible refine HR2.out.mono ?_
          rintro e w8 ⟨rfl, k8, rfl⟩
          go_wp2
          go_ret
          exact ⟨rfl, HFIN.out _⟩
        | some ad =>
          by_cases hcc : c5 = kl
          · subst hcc
            obtain rfl : rl = 0 := by omega
            have h2 := HREC2.out (some ad) 0 (by rw [List.length_eq_zero_iff.1 HRL.out]; exact ⟨[], RCells.nil _ _, .inl rfl⟩)
            have HR2 := Lib.hid h2
            clear h2 HREC2 HRD
            go_wp2_with fail
            with_reducible refine HR2.out.mono ?_
            rintro e w8 ⟨rfl, k8, rfl⟩
            go_wp2
            go_ret
            exact ⟨rfl, HFIN.out _⟩
          · have hck2 : kl < c5 := by omega
            have h2 := HREC2.out (some (ad.add kl)) (c5 - kl) (by
              by_cases hz : R = []
              · rw [hz]; exact ⟨[], RCells.nil _ _, .inl rfl⟩
              · obtain ⟨_, _, h | ⟨b7, o7, h, _⟩⟩ := HRD.out
                · exact absurd (List.append_eq_nil_iff.1 h).2 hz
                · obtain rfl := Option.some.inj h
                  have h3 := HRD.out.drop kl
                  rw [← HKL.out, List.drop_left] at h3
                  rw [Addr.add_mid, ← HKL.out]
                  exact h3)
            have HR2 := Lib.hid h2
            clear h2 HREC2 HRD
            go_wp2_with fail
            with_reducible refine HR2.out.mono ?_
            rintro e w8 ⟨rfl, k8, rfl⟩
            go_wp2
            go_ret
            exact ⟨rfl, HFIN.out _⟩

end Go.Proofs.YtjhiekijbcjohaaGreatDoor
