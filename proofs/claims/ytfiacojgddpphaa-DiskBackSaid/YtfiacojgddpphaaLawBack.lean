/-
  The walk of the law DiskBack at every list of files, every steps and every tails. Conditions: no list and no file is longer than 2 to the 48; the arguments lie in memory.
-/
import Derived.Test.YtfiacojgddpphaaLawQ
import Derived.Test.YtfiacojgddpphaaAwake
namespace Go.Proofs.Ytfiacojgddpphaa
open Go.RowKit Go.Lib Go.Joins

set_option maxRecDepth 100000 in
set_option maxHeartbeats 16000000 in
theorem law_back (a : Option Addr) (L : List FilI) (c n : Nat) (sa : Option Addr) (l : List DoI) (sc sn : Nat) (ta : Option Addr) (ts : List Int) (tc tn : Nat) (w : World) {S0 : Nat → Prop} (hr : Fils w S0 a L) (hn : L.length = n) (hb : n ≤ 281474976710656) (hd : ∀ f ∈ L, f.data.length ≤ 281474976710656)
    (hl : Dos w S0 sa l) (hsn : l.length = sn) (hsb : sn ≤ 281474976710656) (ht : RowI w S0 ta ts) (htn : ts.length = tn) (htc : tn ≤ tc) (hS0 : ∀ k, S0 k → k < w.heap.size) :
    Calls Try.prog 6 #[.slice a n c, .slice sa sn sc, .slice ta tn tc] w (Leaves (.bool true) w) := by
  have HR := Lib.hid hr
  have HN := Lib.hid hn
  have HD := Lib.hid hd
  have HL := Lib.hid hl
  have HSN := Lib.hid hsn
  have HTA := Lib.hid ht
  have HTN := Lib.hid htn
  have HTC := Lib.hid htc
  have HS0 := Lib.hid hS0
  clear hr hn hd hl hsn ht htn htc hS0
  go_enter Try.func6, Try.ntmps6
  go_wp2_with fail
  with_reducible refine (awake_calls w).mono ?_
  rintro e w1 ⟨rfl, hb1⟩
  have HB1 := Lib.hid hb1
  have HR1 := Lib.hid (HR.out.below hb1)
  clear hb1
  cases hsm : smallF L 0 0 with
  | false =>
    go_wp2_with fail
    have hc := small_calls a L c n w1 HR1.out HN.out hb HD.out
    rw [hsm] at hc
    with_reducible refine hc.mono ?_
    rintro e w2 ⟨rfl, q, rfl⟩
    go_wp2
    go_ret
    exact ⟨rfl, below_then HB1.out (below_drewN w1 q)⟩
  | true =>
    obtain ⟨ht1, hnm1, hlen1⟩ := smallF_total L 0 0 hsm
    have HT := Lib.hid ht1
    have HNM := Lib.hid hnm1
    have HLEN := Lib.hid hlen1
    have HSM := Lib.hid (small_calls a L c n w1 HR1.out HN.out hb HD.out)
    rw [hsm] at HSM
    clear ht1 hnm1 hlen1 hsm
    go_wp2_with fail
    with_reducible refine HSM.out.mono ?_
    rintro e w2 ⟨rfl, q, rfl⟩
    have HB2 := Lib.hid (below_then HB1.out (below_drewN w1 q))
    obtain ⟨w2, hw2⟩ : ∃ w2, w1.drewN q = w2 := ⟨_, rfl⟩
    rw [hw2] at HB2
    simp only [hw2]
    clear hw2 HSM HR1 HB1
    have HSD := Lib.hid (dsmall_calls sa l sc sn w2 (HL.out.below HB2.out) HSN.out hsb)
    go_wp2_with fail
    with_reducible refine HSD.out.mono ?_
    clear HSD
    rintro e w4 ⟨rfl, rfl⟩
    cases hsd : smallD l 0 with
    | false =>
      go_wp2
      go_ret
      exact ⟨rfl, HB2.out⟩
    | true =>
    have HX : Hid (∀ j x, l[j]? = some x → j < 60 → DoS x) := Lib.hid (fun j x hx hj => smallD_at hsd hx (by omega))
    clear hsd
    by_cases htl : 200 < tn
    · have e1 : decide ((200 : Int) < (tn : Int)) = true := by simp; omega
      go_wp2
      go_ret
      exact ⟨rfl, HB2.out⟩
    have e1 : decide ((200 : Int) < (tn : Int)) = false := by simp; omega
    go_wp2_with fail
    clear e1
    have hld := load_calls a L c n 32768 w2 (HR.out.below HB2.out) HN.out (by have := HT.out; omega) (fun f hf => by have := HNM.out f hf; omega) (by have h1 := HN.out; rcases HLEN.out with h | h; omega; rw [h] at h1; simp at h1; omega) (by decide)
    cases hq : loadS L (dsk0 32768) with
    | none =>
      rw [hq] at hld
      with_reducible refine hld.mono ?_
      rintro e w5 ⟨rfl, hb5⟩
      have HB5 := Lib.hid (below_then HB2.out hb5)
      clear hld hq hb5
      go_wp2
      go_ret
      exact ⟨rfl, HB5.out⟩
    | some d0 =>
      rw [hq] at hld
      have hnew := (loadS_new (new_dsk0 32768) hq).1
      have HFEW : Hid (Few d0 32768 0) := Lib.hid ⟨(loadS_new (new_dsk0 32768) hq).2.trans (by decide), by rw [hnew.ops]; decide, by rw [hnew.ops]; decide⟩
      with_reducible refine hld.mono ?_
      rintro e w5 ⟨B, S, rfl, hd5, hf5, hb5⟩
      have HL5 := Lib.hid (Live.born HB2.out hd5 hf5 hb5)
      clear hld hq hd5 hf5 hb5 hnew HT HNM HLEN HR HB2
      go_wp2
      go_loopg [9] sn (fun g idx wr => ∃ (i : Nat) (d : Dsk) (S : Nat → Prop), idx = .int .i64 (i : Int) ∧ g + i = sn ∧ i ≤ 60 ∧ Live w wr S B d ∧ Few d 32768 i)
      case atStart => exact ⟨0, d0, S, rfl, rfl, by decide, HL5.out, HFEW.out⟩
      case round =>
        obtain ⟨i, d, Si, rfl, hg, hi60, hlv, hfw⟩ := hrel
        have HG0 := Lib.hid hg
        have HLV := Lib.hid hlv
        have HFW := Lib.hid hfw
        have HSML := Lib.hid (hfw.sml hlv.disk.1 (by decide) (by omega))
        clear hg hlv hfw HFEW HL5
        by_cases hlt : i < sn ∧ i < 60
        · obtain ⟨hlt, h60⟩ := hlt
          obtain ⟨g', rfl⟩ : ∃ g', gk = g' + 1 := ⟨gk - 1, by have := HG0.out; omega⟩
          have hdd : decide ((i : Int) < (sn : Int)) = true := by simp; omega
          have hdd6 : decide ((i : Int) < 60) = true := by simp; omega
          obtain ⟨x, hx⟩ : ∃ x, l[i]? = some x := ⟨l[i]'(by rw [HSN.out]; exact hlt), List.getElem?_eq_getElem _⟩
          have HXX := Lib.hid (HX.out i x hx h60)
          obtain ⟨b, o, dc, rfl, hv, c0, c1, c2, c3, c4, c5, c6⟩ := dos_at (HL.out.below HLV.out.bel) hx
          obtain ⟨r, hr⟩ : ∃ r, actS d x = r := ⟨_, rfl⟩
          have hac := act_calls x dc HLV.out HSML.out hv (Off.old HLV.out HS0.out) HXX.out
          rw [hr] at hac
          have HRR := Lib.hid hr
          have HAC := Lib.hid hac
          clear hr hac hx hv
          go_wp2_with fail
          with_reducible refine HAC.out.mono ?_
          rintro e w7 ⟨rfl, ht7⟩
          obtain ⟨S7, hl7, _, _⟩ := HLV.out.turns ht7
          have HL7 := Lib.hid hl7
          clear ht7 hl7 HAC
          go_wp2
          go_roundg g'
          case measure => omega
          case rel => exact ⟨i + 1, r.2, S7, by go_num, by have := HG0.out; omega, by omega, HL7.out, by rw [← HRR.out]; exact HFW.out.act x⟩
        · have hex : (¬ i < sn ∧ decide ((i : Int) < (sn : Int)) = false) ∨ (i < sn ∧ decide ((i : Int) < (sn : Int)) = true ∧ ¬ i < 60 ∧ decide ((i : Int) < 60) = false) := by
            by_cases h1 : i < sn
            · exact .inr ⟨h1, by simp; omega, by omega, by simp; omega⟩
            · exact .inl ⟨h1, by simp; omega⟩
          clear hlt HG0
          have HFL := Lib.hid (files_calls wr HLV.out.disk HSML.out.used)
          obtain ⟨L1, hL1⟩ : ∃ L1, d.L.map toI = L1 := ⟨_, rfl⟩
          have hlen1 : L1.length ≤ 64 := by rw [← hL1, List.length_map]; exact HLV.out.disk.1.most
          have hn1 : ∃ n1, L1.length = n1 := ⟨_, rfl⟩
          obtain ⟨n1, hn1⟩ := hn1
          have hn1b : n1 ≤ 64 := by omega
          obtain ⟨d2, hd2, hd2L⟩ := loadS_own HLV.out.disk.1 (R := 32768) (by rw [HFW.out.room]; decide)
          have HLOAD := Lib.hid (fun w' (b' : Option Addr) (c' : Nat) (S' : Nat → Prop) (hf' : Fils w' S' b' L1) => load_calls b' L1 c' n1 32768 w' hf' hn1 (by rw [← hL1, total_toI]; exact HSML.out.used) (fun f hf => by
            rw [← hL1] at hf
            obtain ⟨g, hg, rfl⟩ := List.mem_map.1 hf
            have := nmd_size (HLV.out.disk.1.name g hg)
            show g.name.size ≤ _
            omega) (by omega) (by decide))
          rw [hL1] at hd2
          rw [hd2] at HLOAD
          have HDL1 : Hid (∀ f ∈ L1, f.data.length ≤ 1073741824) := Lib.hid (fun f hf => by
            rw [← hL1] at hf
            obtain ⟨g, hg, rfl⟩ := List.mem_map.1 hf
            exact Nat.le_trans (used_mem hg) HSML.out.used)
          have HSAME := Lib.hid (fun w' (b1 b2 : Option Addr) (c1 c2 : Nat) (S1 S2 : Nat → Prop) (h1 : Fils w' S1 b1 L1) (h2 : Fils w' S2 b2 L1) => same_calls b1 b2 L1 L1 c1 c2 n1 n1 w' h1 h2 hn1 hn1 (by omega) (by omega) HDL1.out HDL1.out)
          rw [sameB_eq.2 rfl] at HSAME
          have HD2L : Hid (d2.L.map toI = L1) := Lib.hid (by rw [hd2L]; exact hL1)
          have HU2 : Hid (used d2.L ≤ 1073741824) := Lib.hid (by rw [hd2L]; exact HSML.out.used)
          have HL1 := Lib.hid hL1
          have HSAFE : Hid (∀ f ∈ d.L, f.safe ≤ f.data.length) := Lib.hid HLV.out.disk.1.safe
          have HN1 := Lib.hid hn1
          rw [hL1] at HFL
          clear hL1 hn1 hd2 hd2L hlen1 HX HL HSN
          rcases hex with ⟨hlt, hdd⟩ | ⟨hlt, hdd, hlt6, hd6⟩
          · skip
            go_wp2_with fail
            clear hdd hlt
            with_reducible refine HFL.out.mono ?_
            rintro e w12 ⟨fa, fc, Sf, rfl, hf12, _, _, _, hSf, hb12⟩
            rw [HN1.out]
            have HLV12 := Lib.hid (HLV.out.quiet hb12)
            have HF12 := Lib.hid hf12
            have HOF12 := Lib.hid (Off.new HLV.out hSf)
            have HLO := Lib.hid (HLOAD.out w12 fa fc Sf hf12)
            clear hf12 hSf hb12 HFL HLOAD HLV
            go_wp2_with fail
            with_reducible refine HLO.out.mono ?_
            rintro e w13 ⟨B2, S2, rfl, hd13, hf13, hb13⟩
            have HLV13 := Lib.hid (HLV12.out.quiet hb13)
            have HF13 := Lib.hid (HF12.out.below hb13)
            have HOF13 := Lib.hid (HOF12.out.below hb13)
            have HFL := Lib.hid (files_calls w13 hd13 HU2.out)
            rw [HD2L.out] at HFL
            clear hd13 hf13 hb13 HLO HLV12 HF12 HOF12
            go_wp2_with fail
            with_reducible refine HFL.out.mono ?_
            rintro e w14 ⟨ga, gc, Sg, rfl, hg14, _, _, _, _, hb14⟩
            rw [HN1.out]
            have HLV14 := Lib.hid (HLV13.out.quiet hb14)
            have HF14 := Lib.hid (HF13.out.below hb14)
            have HOF14 := Lib.hid (HOF13.out.below hb14)
            have HSA := Lib.hid (HSAME.out w14 ga fa gc fc Sg Sf hg14 HF14.out)
            clear hg14 hb14 HFL HLV13 HF13 HOF13 HSAME
            go_wp2_with fail
            with_reducible refine HSA.out.mono ?_
            rintro e w15 ⟨rfl, k, rfl⟩
            have HLV15 := Lib.hid (HLV14.out.drewN k)
            have HF15 := Lib.hid (HF14.out.below (below_drewN w14 k))
            have HOF15 := Lib.hid (HOF14.out.below (below_drewN w14 k))
            obtain ⟨w15, hw15⟩ : ∃ w15, w14.drewN k = w15 := ⟨_, rfl⟩
            rw [hw15] at HLV15 HF15 HOF15
            simp only [hw15]
            clear hw15 HSA HLV14 HF14 HOF14
            have hcr := crash_calls ta ts tc tn w15 HLV15.out.disk HSML.out.used (HTA.out.keep (keeps_below HLV15.out.bel Non) (fun _ _ h => h)) HTN.out (fun k hk hs => by have := HLV15.out.own k hs; have := HS0.out k hk; omega) HTC.out (by omega)
            have HCR := Lib.hid hcr
            clear hcr
            go_wp2_with fail
            with_reducible refine HCR.out.mono ?_
            rintro e w16 ⟨rfl, ht16⟩
            obtain ⟨S16, hl16, _, hk16⟩ := HLV15.out.turns ht16
            have HLV16 := Lib.hid hl16
            have HF16 := Lib.hid (HF15.out.keep hk16 HOF15.out.not)
            clear ht16 hl16 hk16 HCR HLV15 HF15 HOF15
            have hu16 : used (crash ts d).L ≤ 1073741824 := Nat.le_trans (used_crs ts 0 d.L) HSML.out.used
            have HFL := Lib.hid (files_calls w16 HLV16.out.disk hu16)
            have hlen2 : ((crash ts d).L.map toI).length = n1 := by
              rw [List.length_map, ← HN1.out, ← HL1.out, List.length_map]
              exact len_crs ts 0 d.L
            have HAT : Hid (∀ (i : Nat) (f : Fil), d.L[i]? = some f → ∃ n : Nat, ((crash ts d).L.map toI)[i]? = some (⟨f.name, f.data.take n, (n : Int)⟩ : FilI) ∧ f.safe ≤ n ∧ n ≤ f.data.length) := Lib.hid (fun i f hf => by
              obtain ⟨n, h1, h2, h3⟩ := crs_at ts 0 d.L hf
              have h4 : (crash ts d).L[i]? = some ⟨f.name, f.data.take n, n⟩ := h1
              exact ⟨n, by rw [List.getElem?_map, h4]; rfl, h2, h3 (HSAFE.out f (List.mem_of_getElem? hf))⟩)
            obtain ⟨L2, hL2⟩ : ∃ L2, (crash ts d).L.map toI = L2 := ⟨_, rfl⟩
            rw [hL2] at HFL HAT hlen2
            have HLEN2 := Lib.hid hlen2
            clear hu16 hL2 hlen2
            go_wp2_with fail
            with_reducible refine HFL.out.mono ?_
            rintro e w17 ⟨ya, yc, Sy, rfl, hy17, _, _, _, _, hb17⟩
            rw [HLEN2.out]
            have HLV17 := Lib.hid (HLV16.out.quiet hb17)
            have HF17 := Lib.hid (HF16.out.below hb17)
            have HY17 := Lib.hid hy17
            clear hy17 hb17 HFL HLV16 HF16
            go_wp2
            go_loopg [14] n1 (fun g idx wr => ∃ (i k : Nat), idx = .int .i64 (i : Int) ∧ g + i = n1 ∧ wr = w17.drewN k)
            case atStart => exact ⟨0, 0, rfl, rfl, rfl⟩
            case round =>
              obtain ⟨j, k, rfl, hg, rfl⟩ := hrel
              have HG0 := Lib.hid hg
              clear hg
              by_cases hlt : j < n1
              · obtain ⟨g', rfl⟩ : ∃ g', gk = g' + 1 := ⟨gk - 1, by have := HG0.out; omega⟩
                have hdd : decide ((j : Int) < (n1 : Int)) = true := by simp; omega
                have hdl : d.L.length = n1 := by rw [← HN1.out, ← HL1.out, List.length_map]
                obtain ⟨f, hf⟩ : ∃ f, d.L[j]? = some f := ⟨d.L[j]'(by omega), List.getElem?_eq_getElem _⟩
                have hf1 : L1[j]? = some (toI f) := by rw [← HL1.out, List.getElem?_map, hf]; rfl
                obtain ⟨m, hf2, hm1, hm2⟩ := HAT.out j f hf
                obtain ⟨b1, o1, da1, dc1, rfl, _, x0, x1, x2, _⟩ := fils_at HF17.out hf1
                obtain ⟨b2, o2, da2, dc2, rfl, _, y0, y1, y2, _⟩ := fils_at HY17.out hf2
                have hml : (f.data.take m).length = m := by rw [List.length_take]; omega
                dsimp only at y1 y2
                rw [hml] at y1
                have x1' : w17.cell? ⟨b1, o1 + j * 3 + 1, none⟩ = some (.slice da1 f.data.length dc1) := x1
                have x2' : w17.cell? ⟨b1, o1 + j * 3 + 2, none⟩ = some (.int .i64 (f.safe : Int)) := x2
                obtain ⟨fl, hfl⟩ : ∃ fl, f.data.length = fl := ⟨_, rfl⟩
                obtain ⟨fs, hfs⟩ : ∃ fs, f.safe = fs := ⟨_, rfl⟩
                rw [hfl] at x1' hm2
                rw [hfs] at x2' hm1
                have g1 : decide ((m : Int) < (fs : Int)) = false := by simp; omega
                have g2 : decide ((fl : Int) < (m : Int)) = false := by simp; omega
                clear x0 x1 x2 y0 hml hfl hfs hf hf1 hf2 hdl
                go_wp2
                go_quiet (fail)
                go_wp2
                go_roundg g'
                case measure => omega
                case rel => exact ⟨j + 1, _, by go_num, by have := HG0.out; omega, rfl⟩
              · have hdd : decide ((j : Int) < (n1 : Int)) = false := by simp; omega
                have HDN := Lib.hid (down_calls (w17.drewN k) (HLV17.out.drewN k).disk)
                have hdf : (crash ts d).down = false := rfl
                rw [hdf] at HDN
                clear hdf
                go_wp2_with fail
                with_reducible refine HDN.out.mono ?_
                rintro e w18 ⟨rfl, rfl⟩
                go_wp2
                go_ret
                exact ⟨rfl, (HLV17.out.drewN k).bel⟩
          · skip
            go_wp2_with fail
            clear hdd hd6 hlt hlt6
            with_reducible refine HFL.out.mono ?_
            rintro e w12 ⟨fa, fc, Sf, rfl, hf12, _, _, _, hSf, hb12⟩
            rw [HN1.out]
            have HLV12 := Lib.hid (HLV.out.quiet hb12)
            have HF12 := Lib.hid hf12
            have HOF12 := Lib.hid (Off.new HLV.out hSf)
            have HLO := Lib.hid (HLOAD.out w12 fa fc Sf hf12)
            clear hf12 hSf hb12 HFL HLOAD HLV
            go_wp2_with fail
            with_reducible refine HLO.out.mono ?_
            rintro e w13 ⟨B2, S2, rfl, hd13, hf13, hb13⟩
            have HLV13 := Lib.hid (HLV12.out.quiet hb13)
            have HF13 := Lib.hid (HF12.out.below hb13)
            have HOF13 := Lib.hid (HOF12.out.below hb13)
            have HFL := Lib.hid (files_calls w13 hd13 HU2.out)
            rw [HD2L.out] at HFL
            clear hd13 hf13 hb13 HLO HLV12 HF12 HOF12
            go_wp2_with fail
            with_reducible refine HFL.out.mono ?_
            rintro e w14 ⟨ga, gc, Sg, rfl, hg14, _, _, _, _, hb14⟩
            rw [HN1.out]
            have HLV14 := Lib.hid (HLV13.out.quiet hb14)
            have HF14 := Lib.hid (HF13.out.below hb14)
            have HOF14 := Lib.hid (HOF13.out.below hb14)
            have HSA := Lib.hid (HSAME.out w14 ga fa gc fc Sg Sf hg14 HF14.out)
            clear hg14 hb14 HFL HLV13 HF13 HOF13 HSAME
            go_wp2_with fail
            with_reducible refine HSA.out.mono ?_
            rintro e w15 ⟨rfl, k, rfl⟩
            have HLV15 := Lib.hid (HLV14.out.drewN k)
            have HF15 := Lib.hid (HF14.out.below (below_drewN w14 k))
            have HOF15 := Lib.hid (HOF14.out.below (below_drewN w14 k))
            obtain ⟨w15, hw15⟩ : ∃ w15, w14.drewN k = w15 := ⟨_, rfl⟩
            rw [hw15] at HLV15 HF15 HOF15
            simp only [hw15]
            clear hw15 HSA HLV14 HF14 HOF14
            have hcr := crash_calls ta ts tc tn w15 HLV15.out.disk HSML.out.used (HTA.out.keep (keeps_below HLV15.out.bel Non) (fun _ _ h => h)) HTN.out (fun k hk hs => by have := HLV15.out.own k hs; have := HS0.out k hk; omega) HTC.out (by omega)
            have HCR := Lib.hid hcr
            clear hcr
            go_wp2_with fail
            with_reducible refine HCR.out.mono ?_
            rintro e w16 ⟨rfl, ht16⟩
            obtain ⟨S16, hl16, _, hk16⟩ := HLV15.out.turns ht16
            have HLV16 := Lib.hid hl16
            have HF16 := Lib.hid (HF15.out.keep hk16 HOF15.out.not)
            clear ht16 hl16 hk16 HCR HLV15 HF15 HOF15
            have hu16 : used (crash ts d).L ≤ 1073741824 := Nat.le_trans (used_crs ts 0 d.L) HSML.out.used
            have HFL := Lib.hid (files_calls w16 HLV16.out.disk hu16)
            have hlen2 : ((crash ts d).L.map toI).length = n1 := by
              rw [List.length_map, ← HN1.out, ← HL1.out, List.length_map]
              exact len_crs ts 0 d.L
            have HAT : Hid (∀ (i : Nat) (f : Fil), d.L[i]? = some f → ∃ n : Nat, ((crash ts d).L.map toI)[i]? = some (⟨f.name, f.data.take n, (n : Int)⟩ : FilI) ∧ f.safe ≤ n ∧ n ≤ f.data.length) := Lib.hid (fun i f hf => by
              obtain ⟨n, h1, h2, h3⟩ := crs_at ts 0 d.L hf
              have h4 : (crash ts d).L[i]? = some ⟨f.name, f.data.take n, n⟩ := h1
              exact ⟨n, by rw [List.getElem?_map, h4]; rfl, h2, h3 (HSAFE.out f (List.mem_of_getElem? hf))⟩)
            obtain ⟨L2, hL2⟩ : ∃ L2, (crash ts d).L.map toI = L2 := ⟨_, rfl⟩
            rw [hL2] at HFL HAT hlen2
            have HLEN2 := Lib.hid hlen2
            clear hu16 hL2 hlen2
            go_wp2_with fail
            with_reducible refine HFL.out.mono ?_
            rintro e w17 ⟨ya, yc, Sy, rfl, hy17, _, _, _, _, hb17⟩
            rw [HLEN2.out]
            have HLV17 := Lib.hid (HLV16.out.quiet hb17)
            have HF17 := Lib.hid (HF16.out.below hb17)
            have HY17 := Lib.hid hy17
            clear hy17 hb17 HFL HLV16 HF16
            go_wp2
            go_loopg [14] n1 (fun g idx wr => ∃ (i k : Nat), idx = .int .i64 (i : Int) ∧ g + i = n1 ∧ wr = w17.drewN k)
            case atStart => exact ⟨0, 0, rfl, rfl, rfl⟩
            case round =>
              obtain ⟨j, k, rfl, hg, rfl⟩ := hrel
              have HG0 := Lib.hid hg
              clear hg
              by_cases hlt : j < n1
              · obtain ⟨g', rfl⟩ : ∃ g', gk = g' + 1 := ⟨gk - 1, by have := HG0.out; omega⟩
                have hdd : decide ((j : Int) < (n1 : Int)) = true := by simp; omega
                have hdl : d.L.length = n1 := by rw [← HN1.out, ← HL1.out, List.length_map]
                obtain ⟨f, hf⟩ : ∃ f, d.L[j]? = some f := ⟨d.L[j]'(by omega), List.getElem?_eq_getElem _⟩
                have hf1 : L1[j]? = some (toI f) := by rw [← HL1.out, List.getElem?_map, hf]; rfl
                obtain ⟨m, hf2, hm1, hm2⟩ := HAT.out j f hf
                obtain ⟨b1, o1, da1, dc1, rfl, _, x0, x1, x2, _⟩ := fils_at HF17.out hf1
                obtain ⟨b2, o2, da2, dc2, rfl, _, y0, y1, y2, _⟩ := fils_at HY17.out hf2
                have hml : (f.data.take m).length = m := by rw [List.length_take]; omega
                dsimp only at y1 y2
                rw [hml] at y1
                have x1' : w17.cell? ⟨b1, o1 + j * 3 + 1, none⟩ = some (.slice da1 f.data.length dc1) := x1
                have x2' : w17.cell? ⟨b1, o1 + j * 3 + 2, none⟩ = some (.int .i64 (f.safe : Int)) := x2
                obtain ⟨fl, hfl⟩ : ∃ fl, f.data.length = fl := ⟨_, rfl⟩
                obtain ⟨fs, hfs⟩ : ∃ fs, f.safe = fs := ⟨_, rfl⟩
                rw [hfl] at x1' hm2
                rw [hfs] at x2' hm1
                have g1 : decide ((m : Int) < (fs : Int)) = false := by simp; omega
                have g2 : decide ((fl : Int) < (m : Int)) = false := by simp; omega
                clear x0 x1 x2 y0 hml hfl hfs hf hf1 hf2 hdl
                go_wp2
                go_quiet (fail)
                go_wp2
                go_roundg g'
                case measure => omega
                case rel => exact ⟨j + 1, _, by go_num, by have := HG0.out; omega, rfl⟩
              · have hdd : decide ((j : Int) < (n1 : Int)) = false := by simp; omega
                have HDN := Lib.hid (down_calls (w17.drewN k) (HLV17.out.drewN k).disk)
                have hdf : (crash ts d).down = false := rfl
                rw [hdf] at HDN
                clear hdf
                go_wp2_with fail
                with_reducible refine HDN.out.mono ?_
                rintro e w18 ⟨rfl, rfl⟩
                go_wp2
                go_ret
                exact ⟨rfl, (HLV17.out.drewN k).bel⟩

end Go.Proofs.Ytfiacojgddpphaa
