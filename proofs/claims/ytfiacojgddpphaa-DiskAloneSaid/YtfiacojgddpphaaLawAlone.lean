/-
  The walk of the law DiskAlone at every list of files and every step. Conditions: no list and no file is longer than 2 to the 48; the arguments lie in memory.
-/
import Derived.Test.YtfiacojgddpphaaPick
import Derived.Test.YtfiacojgddpphaaAwake
namespace Go.Proofs.Ytfiacojgddpphaa
open Go.RowKit Go.Lib Go.Joins

theorem toList_ne {a b : ByteArray} (h : a ≠ b) : (a.toList == b.toList) = false := by
  rw [ByteArray.toList_eq, ByteArray.toList_eq]
  have := same_is a b
  rw [decide_eq_false h] at this
  exact this
theorem doV_top {w : World} {S : Nat → Prop} {x : DoI} {c : DoC} (h : DoV w S x c) : DoV w (fun _ => True) x c :=
  ⟨h.row.mono (fun _ _ => trivial), h.nb, h.lb, h.mb, (by rcases h.tails with h0 | ⟨b, o, h1, _, h3⟩; exact .inl h0; exact .inr ⟨b, o, h1, trivial, h3⟩), h.lt, (by rcases h.list with h0 | ⟨b, o, h1, _, h3⟩; exact .inl h0; exact .inr ⟨b, o, h1, trivial, h3⟩), h.wf⟩
theorem dos_one {w : World} {S : Nat → Prop} {x : DoI} {c : DoC} (h : DoV w S x c) : Dos (w.alloc (.cells (doA x c) 39)) (fun _ => True) (some ⟨w.heap.size, 0, none⟩) [x] := by
  refine .inr ⟨_, _, rfl, trivial, fun i y hi => ?_⟩
  cases i with
  | zero =>
    obtain rfl : x = y := by simpa using hi
    refine ⟨c, (doV_top h).below ((Below.refl _ _).alloc (Nat.le_refl _) _), fun j v hj => ?_⟩
    rw [show 0 + 0 * 7 + j = j by omega, cell_of_block (heap_alloc_new w _) j]
    exact hj
  | succ i => simp at hi

/-- The cells of a step that lies in a block. -/
structure Seven (w : World) (bx : Nat) (x : DoI) (c : DoC) : Prop where
  c0 : w.cell? ⟨bx, 0, none⟩ = some (.int .i64 x.kind)
  c1 : w.cell? ⟨bx, 1, none⟩ = some (.string x.name)
  c2 : w.cell? ⟨bx, 2, none⟩ = some (.string x.to)
  c3 : w.cell? ⟨bx, 3, none⟩ = some (.int .i64 x.n)
  c4 : w.cell? ⟨bx, 4, none⟩ = some (.slice c.ab x.b.length c.cb)
  c5 : w.cell? ⟨bx, 5, none⟩ = some (.slice c.at_ x.tails.length c.ct)
  c6 : w.cell? ⟨bx, 6, none⟩ = some (.slice c.al x.list.length c.cl)
theorem seven_of {w : World} {bx : Nat} {x : DoI} {c : DoC} {fr : Nat × Nat} (hb : w.heap[bx]? = some (.cells (doA x c) 39 fr)) : Seven w bx x c :=
  ⟨(cell_of_block hb 0).trans rfl, (cell_of_block hb 1).trans rfl, (cell_of_block hb 2).trans rfl, (cell_of_block hb 3).trans rfl, (cell_of_block hb 4).trans rfl, (cell_of_block hb 5).trans rfl, (cell_of_block hb 6).trans rfl⟩

/-- Of a step's cells, those that the loops read. -/
theorem seven_below {W w : World} {bx : Nat} {x : DoI} {c : DoC} {fr : Nat × Nat} (hb : W.heap[bx]? = some (.cells (doA x c) 39 fr)) (h : Below W.heap.size W w) : Seven w bx x c := seven_of (block_below h hb)

set_option maxRecDepth 100000 in
set_option maxHeartbeats 8000000 in
theorem law_alone (a : Option Addr) (L : List FilI) (c n : Nat) (x : DoI) (dc : DoC) (w : World) {S0 : Nat → Prop} (hr : Fils w S0 a L) (hn : L.length = n) (hb : n ≤ 281474976710656) (hd : ∀ f ∈ L, f.data.length ≤ 281474976710656) (hv : DoV w S0 x dc) (hS0 : ∀ k, S0 k → k < w.heap.size) :
    Calls Try.prog 5 #[.slice a n c, .agg (doA x dc)] w (Leaves (.bool true) w) := by
  obtain ⟨W, hW⟩ : ∃ W, w.alloc (.cells (doA x dc) 39) = W := ⟨_, rfl⟩
  have hbel : Below w.heap.size w W := by rw [← hW]; exact (Below.refl _ _).alloc (Nat.le_refl _) _
  have hblk : W.heap[w.heap.size]? = some (.cells (doA x dc) 39 (0, 0)) := by rw [← hW]; exact heap_alloc_new w _
  have HBLK := Lib.hid hblk
  obtain ⟨bx, hbx⟩ : ∃ bx, w.heap.size = bx := ⟨_, rfl⟩
  rw [hbx] at HBLK
  have HBEL := Lib.hid hbel
  have HR := Lib.hid (hr.below hbel)
  have HV := Lib.hid (hv.below hbel)
  have HN := Lib.hid hn
  have HD := Lib.hid hd
  have HS0 : Hid (∀ k, S0 k → k < W.heap.size) := Lib.hid (fun k h => Nat.lt_of_lt_of_le (hS0 k h) hbel.size)
  clear hr hn hd hv hS0 hbel hblk
  obtain ⟨k, s, t, nn, b, ts, tl⟩ := x
  obtain ⟨ab, cb, at_, ct, al, cl⟩ := dc
  dsimp only [doA] at hW ⊢
  go_enter Try.func5, Try.ntmps5
  go_wp2_with fail
  clear hW
  try rw [hbx]
  try clear hbx
  with_reducible refine (awake_calls W).mono ?_
  rintro e w1 ⟨rfl, hb1⟩
  have HB1 := Lib.hid hb1
  have HR1 := Lib.hid (HR.out.below hb1)
  clear hb1
  cases hsm : smallF L 0 0 with
  | false =>
    go_wp2_with fail
    have hc := small_calls a L c n w1 HR1.out HN.out hb HD.out
    rw [hsm] at hc
    with_reducible refine hc.mono ?_
    rintro e w2 ⟨rfl, q, rfl⟩
    go_wp2
    go_ret
    exact ⟨rfl, below_then HBEL.out (below_then HB1.out (below_drewN w1 q))⟩
  | true =>
    obtain ⟨ht1, hnm1, hlen1⟩ := smallF_total L 0 0 hsm
    have HT := Lib.hid ht1
    have HNM := Lib.hid hnm1
    have HLEN := Lib.hid hlen1
    have HSM := Lib.hid (small_calls a L c n w1 HR1.out HN.out hb HD.out)
    rw [hsm] at HSM
    clear ht1 hnm1 hlen1 hsm
    go_wp2_with fail
    with_reducible refine HSM.out.mono ?_
    rintro e w2 ⟨rfl, q, rfl⟩
    have HB2 := Lib.hid (below_then HB1.out (below_drewN w1 q))
    obtain ⟨w2, hw2⟩ : ∃ w2, w1.drewN q = w2 := ⟨_, rfl⟩
    rw [hw2] at HB2
    simp only [hw2]
    clear hw2 HSM HR1 HB1
    obtain ⟨c0, c1, c2, c3, c4, c5, c6⟩ := seven_below HBLK.out HB2.out
    dsimp only at c0 c1 c2 c3 c4 c5 c6
    obtain ⟨W3, hW3⟩ : ∃ W3, w2.alloc (.cells #[.int .i64 k, .string s, .string t, .int .i64 nn, .slice ab b.length cb, .slice at_ ts.length ct, .slice al tl.length cl] 39) = W3 := ⟨_, rfl⟩
    have HV2 := Lib.hid (HV.out.below HB2.out)
    have hdos := dos_one HV2.out
    dsimp only [doA] at hdos
    rw [hW3] at hdos
    have HDOS := Lib.hid hdos
    have HB3 : Hid (Below W.heap.size W W3) := Lib.hid (by rw [← hW3]; exact below_then HB2.out ((Below.refl _ w2).alloc (Nat.le_refl _) _))
    obtain ⟨d0, _, _, _, _, _, _⟩ := seven_below HBLK.out HB3.out
    dsimp only at d0
    have HSD := Lib.hid (dsmall_calls (some ⟨w2.heap.size, 0, none⟩) [⟨k, s, t, nn, b, ts, tl⟩] 1 1 W3 HDOS.out rfl (by decide))
    clear hdos
    go_wp2_with fail
    clear c0 c1 c2 c3 c4 c5 c6 hW3
    with_reducible refine HSD.out.mono ?_
    clear HSD
    rintro e w4 ⟨rfl, rfl⟩
    cases hsd : smallD [(⟨k, s, t, nn, b, ts, tl⟩ : DoI)] 0 with
    | false =>
      go_wp2
      go_ret
      exact ⟨rfl, below_then HBEL.out HB3.out⟩
    | true =>
    have HX : Hid (DoS ⟨k, s, t, nn, b, ts, tl⟩) := Lib.hid (smallD_at (j := 0) hsd rfl (by decide))
    clear hsd
    by_cases hk1 : k < 1
    · have e1 : decide (k < 1) = true := by simpa using hk1
      go_wp2
      go_ret
      exact ⟨rfl, below_then HBEL.out HB3.out⟩
    have e1 : decide (k < 1) = false := by simpa using hk1
    by_cases hk6 : 6 < k
    · have e6 : decide (6 < k) = true := by simpa using hk6
      go_wp2
      go_ret
      exact ⟨rfl, below_then HBEL.out HB3.out⟩
    have e6 : decide (6 < k) = false := by simpa using hk6
    have HK1 : Hid (1 ≤ k) := Lib.hid (by omega)
    have HK6 : Hid (k ≤ 6) := Lib.hid (by omega)
    go_wp2_with fail
    clear hk1 hk6 e1 e6 d0
    have hld := load_calls a L c n 32768 W3 (HR.out.below HB3.out) HN.out (by have := HT.out; omega) (fun f hf => by have := HNM.out f hf; omega) (by have h1 := HN.out; rcases HLEN.out with h | h; omega; rw [h] at h1; simp at h1; omega) (by decide)
    cases hq : loadS L (dsk0 32768) with
    | none =>
      rw [hq] at hld
      with_reducible refine hld.mono ?_
      rintro e w5 ⟨rfl, hb5⟩
      have HB5 := Lib.hid (below_then HBEL.out (below_then HB3.out hb5))
      clear hld hq hb5
      go_wp2
      go_ret
      exact ⟨rfl, HB5.out⟩
    | some d =>
      rw [hq] at hld
      obtain ⟨m, hm⟩ : ∃ m, 0 + total L = m := ⟨_, rfl⟩
      have hnew := (loadS_new (new_dsk0 32768) hq).1
      have hm2 : m ≤ 16384 := by rw [← hm]; exact HT.out
      have HROOM : Hid (d.room = 32768) := Lib.hid ((loadS_new (new_dsk0 32768) hq).2.trans (by decide))
      rw [hm] at hnew
      with_reducible refine hld.mono ?_
      rintro e w5 ⟨B, S, rfl, hd5, hf5, hb5⟩
      have HL5 := Lib.hid (Live.born HB3.out hd5 hf5 hb5)
      have HSML := Lib.hid (hnew.sml (by omega))
      have HNEW := Lib.hid hnew
      have HMOST := Lib.hid hd5.1.most
      clear hld hq hd5 hf5 hb5 hnew hm HT HNM HLEN HR HB2 HB3 HDOS HV2
      obtain ⟨L1, hL1⟩ : ∃ L1, d.L.map toI = L1 := ⟨_, rfl⟩
      have hfl := files_calls w5 HL5.out.disk HSML.out.used
      rw [hL1] at hfl
      have HL1 := Lib.hid hL1
      clear hL1
      go_wp2_with fail
      with_reducible refine hfl.mono ?_
      rintro e w6 ⟨fa, fc, Sf, rfl, hfils, _, _, _, hSf, hb6⟩
      have HFILS := Lib.hid hfils
      have HSF : Hid (∀ k, Sf k → k < w6.heap.size) := Lib.hid (fun k h => (hSf k h).2)
      have HOF := Lib.hid (Off.new HL5.out hSf)
      have HL6 := Lib.hid (HL5.out.quiet hb6)
      clear hfl hfils hSf hb6 HL5
      obtain ⟨c0, c1, c2, c3, c4, c5, c6⟩ := seven_below HBLK.out HL6.out.bel
      dsimp only at c0 c1 c2 c3 c4 c5 c6
      obtain ⟨r, hr⟩ : ∃ r, actS d ⟨k, s, t, nn, b, ts, tl⟩ = r := ⟨_, rfl⟩
      have hac := act_calls ⟨k, s, t, nn, b, ts, tl⟩ ⟨ab, cb, at_, ct, al, cl⟩ HL6.out HSML.out (HV.out.below HL6.out.bel) (Off.old HL6.out HS0.out) HX.out
      rw [hr] at hac
      have HRR := Lib.hid hr
      clear hr
      have HAC := Lib.hid hac
      clear hac
      go_wp2_with fail
      clear c0 c1 c2 c3 c4 c5 c6
      with_reducible refine HAC.out.mono ?_
      rintro e w7 ⟨rfl, ht7⟩
      obtain ⟨S7, hl7, hf7, hk7⟩ := HL6.out.turns ht7
      have HL7 := Lib.hid hl7
      have HFILS7 := Lib.hid (HFILS.out.keep hk7 HOF.out.not)
      have HSF7 : Hid (∀ k, Sf k → k < w7.heap.size) := Lib.hid (fun k h => Nat.lt_of_lt_of_le (HSF.out k h) hk7.size)
      clear HAC ht7 hl7 hf7 hk7 HL6 HFILS HSF HOF
      have hmost7 := HL7.out.disk.1.most
      have hused7 : used r.2.L ≤ 1073741824 := by
        have := HL7.out.disk.1.fit
        have hroom : r.2.room = d.room := by
          rw [← HRR.out]
          unfold actS
          rw [if_pos ⟨HK1.out, HK6.out⟩, step_calm HNEW.out.down HNEW.out.tr]
          split <;> rfl
        rw [hroom, HROOM.out] at this
        omega
      obtain ⟨L2, hL2⟩ : ∃ L2, r.2.L.map toI = L2 := ⟨_, rfl⟩
      have hpure : L2.filter (fun f => kp k s t f.name) = L1.filter (fun f => kp k s t f.name) := by
        rw [← hL2, ← HL1.out, ← HRR.out]
        exact alone_pureI HNEW.out ⟨k, s, t, nn, b, ts, tl⟩ HK1.out HK6.out
      have hfl := files_calls w7 HL7.out.disk hused7
      rw [hL2] at hfl
      have hlen1 : L1.length ≤ 1000 := by rw [← HL1.out, List.length_map]; have := HMOST.out; omega
      have hlen2 : L2.length ≤ 1000 := by rw [← hL2, List.length_map]; omega
      have HPURE := Lib.hid hpure
      have HDL1 : Hid (∀ f ∈ L1, f.data.length ≤ 1073741824) := Lib.hid (fun f hf => by
        rw [← HL1.out] at hf
        obtain ⟨g, hg, rfl⟩ := List.mem_map.1 hf
        exact Nat.le_trans (used_mem hg) HSML.out.used)
      have HLEN1 := Lib.hid hlen1
      have HLEN2 := Lib.hid hlen2
      have HFL := Lib.hid hfl
      clear hmost7 hused7 hL2 hpure hfl hlen1 hlen2 HL1 HMOST
      go_wp2_with fail
      with_reducible refine HFL.out.mono ?_
      rintro e w8 ⟨ga, gc, Sg, rfl, hgils, _, _, _, hSg, hb8⟩
      have HG := Lib.hid hgils
      have HSG : Hid (∀ k, Sg k → k < w8.heap.size) := Lib.hid (fun k h => (hSg k h).2)
      have HF := Lib.hid (HFILS7.out.below hb8)
      have HSF8 : Hid (∀ k, Sf k → k < w8.heap.size) := Lib.hid (fun k h => Nat.lt_of_lt_of_le (HSF7.out k h) hb8.size)
      have HB8 := Lib.hid (below_then HL7.out.bel hb8)
      clear HFL hgils hSg hb8 HFILS7 HSF7 HL7
      obtain ⟨n1, hn1⟩ : ∃ n1, L1.length = n1 := ⟨_, rfl⟩
      obtain ⟨n2, hn2⟩ : ∃ n2, L2.length = n2 := ⟨_, rfl⟩
      simp only [hn1, hn2]
      have HN1 := Lib.hid hn1
      have HN2 := Lib.hid hn2
      have hn1b : n1 ≤ 1000 := by rw [← hn1]; exact HLEN1.out
      have hn2b : n2 ≤ 1000 := by rw [← hn2]; exact HLEN2.out
      clear hn1 hn2
      go_wp2
      go_loopg [9, 11] n1 (fun g lst idx wr => ∃ (i : Nat), idx = .int .i64 (i : Int) ∧ g + i = n1 ∧ Pick w8 wr Sf lst ((L1.take i).filter (fun f => kp k s t f.name)))
      case atStart => exact ⟨0, rfl, rfl, Pick.nil _ _⟩
      case round =>
        obtain ⟨i, rfl, hg, hp⟩ := hrel
        have HG0 := Lib.hid hg
        have HP := Lib.hid hp
        obtain ⟨la, lc, hform⟩ := hp.form
        subst hform
        clear hg hp
        by_cases hlt : i < n1
        · obtain ⟨g', rfl⟩ : ∃ g', gk = g' + 1 := ⟨gk - 1, by have := HG0.out; omega⟩
          have hdd : decide ((i : Int) < (n1 : Int)) = true := by simp; omega
          obtain ⟨f, hf⟩ : ∃ f, L1[i]? = some f := ⟨L1[i]'(by have := HN1.out; omega), List.getElem?_eq_getElem _⟩
          obtain ⟨fb, fo, da, dcap, rfl, r0, r1, r2, hby⟩ := fils_byt HF.out hf
          have hbe := HP.out.bel
          obtain ⟨c0, c1, c2, _, _, _, _⟩ := seven_below HBLK.out (below_then HB8.out hbe)
          dsimp only at c0 c1 c2
          have q0 : ∀ m, (wr.drewN m).cell? ⟨fb, fo + i * 3, none⟩ = some (.string f.name) := fun m => (World.cell?_of_block (a := ⟨fb, fo + i * 3, none⟩) (hbe.block fb (lt_of_cell r0))).trans r0
          have q1 : ∀ m, (wr.drewN m).cell? ⟨fb, fo + i * 3 + 1, none⟩ = some (.slice da f.data.length dcap) := fun m => (World.cell?_of_block (a := ⟨fb, fo + i * 3 + 1, none⟩) (hbe.block fb (lt_of_cell r1))).trans r1
          have q2 : ∀ m, (wr.drewN m).cell? ⟨fb, fo + i * 3 + 2, none⟩ = some (.int .i64 f.safe) := fun m => (World.cell?_of_block (a := ⟨fb, fo + i * 3 + 2, none⟩) (hbe.block fb (lt_of_cell r2))).trans r2
          have t0 : wr.cell? ⟨fb, fo + i * 3, none⟩ = some (.string f.name) := q0 0
          have hml : ((L1.take i).filter (fun f => kp k s t f.name)).length ≤ 1000 := Nat.le_trans (List.length_filter_le _ _) (Nat.le_trans (List.length_take_le _ _) (by have := HLEN1.out; have := HN1.out; omega))
          have HSTEP := Lib.hid (fun m => (HP.out.below (below_drewN wr m)).step HSF8.out hby hml (N := wr.heap.size) rfl)
          have hft := filter_take (p := fun f => kp k s t f.name) hf
          have HFT := Lib.hid hft
          clear hbe r0 r1 r2 hby hml hft hf
          obtain ⟨M, hM⟩ : ∃ M, (L1.take i).filter (fun f => kp k s t f.name) = M := ⟨_, rfl⟩
          rw [hM] at HP HSTEP HFT
          simp only [hM]
          clear hM
          by_cases hnm : f.name = s
          · have HD : Hid ((L1.take (i + 1)).filter (fun f => kp k s t f.name) = M) := Lib.hid (by
              have hk : kp k s t f.name = false := by rw [hnm]; simp [kp]
              rw [HFT.out, hk]; simp)
            rw [hnm] at t0
            have hee : (s.toList == s.toList) = true := by simp
            clear hnm HFT HSTEP q0 q1 q2
            go_wp2
            go_quiet (fail)
            go_wp2
            go_roundg g'
            case measure => omega
            case rel => exact ⟨i + 1, by go_num, by have := HG0.out; omega, by rw [HD.out]; exact HP.out.below (below_drewN wr _)⟩
          · have hne := toList_ne hnm
            by_cases hk5 : k = 5
            · by_cases hnt : f.name = t
              · have HD : Hid ((L1.take (i + 1)).filter (fun f => kp k s t f.name) = M) := Lib.hid (by
                  have hk : kp k s t f.name = false := by rw [hnt, hk5]; simp [kp]
                  rw [HFT.out, hk]; simp)
                rw [hk5] at c0
                rw [hnt] at t0 hne
                have hee : (t.toList == t.toList) = true := by simp
                clear hnm hnt hk5 HFT HSTEP q0 q1 q2
                go_wp2
                go_quiet (fail)
                go_wp2
                go_roundg g'
                case measure => omega
                case rel => exact ⟨i + 1, by go_num, by have := HG0.out; omega, by rw [HD.out]; exact HP.out.below (below_drewN wr _)⟩
              · have hne2 := toList_ne hnt
                have HD : Hid ((L1.take (i + 1)).filter (fun f => kp k s t f.name) = M ++ [f]) := Lib.hid (by
                  have hk : kp k s t f.name = true := by simp [kp, hnm, hnt]
                  rw [HFT.out, hk]; simp)
                rw [hk5] at c0
                clear hnm hnt hk5 HFT
                go_wp2
                go_quiet (fail)
                obtain ⟨v', w', hrun, hpick⟩ := HSTEP.out nq
                have s0 := q0 nq
                have s1 := q1 nq
                have s2 := q2 nq
                have HPK := Lib.hid hpick
                have HRUN := Lib.hid hrun
                obtain ⟨la', lc', hform⟩ := hpick.form
                subst hform
                clear hpick hrun HSTEP q0 q1 q2 t0 c0 c1 c2 hne hne2
                go_wp2_with (at_builtin; refine wpList_step (fun K hK => step_append rfl _ _ 22 rfl _ _ _ rfl rfl HRUN.out (hK _ _ ?_)))
                go_roundg g'
                case measure => omega
                case rel => exact ⟨i + 1, by go_num, by have := HG0.out; omega, by rw [HD.out]; have h := HPK.out; rw [List.length_append, List.length_singleton] at h; exact h⟩
            · have hk5b : decide (k = 5) = false := by simpa using hk5
              have hk5c : (k == 5) = false := by simpa using hk5
              have hk5d : (k != 5) = true := by simpa using hk5
              have HD : Hid ((L1.take (i + 1)).filter (fun f => kp k s t f.name) = M ++ [f]) := Lib.hid (by
                have hk : kp k s t f.name = true := by simp [kp, hnm, hk5]
                rw [HFT.out, hk]; simp)
              clear hnm hk5 HFT
              go_wp2
              go_quiet (fail)
              obtain ⟨v', w', hrun, hpick⟩ := HSTEP.out nq
              have s0 := q0 nq
              have s1 := q1 nq
              have s2 := q2 nq
              have HPK := Lib.hid hpick
              have HRUN := Lib.hid hrun
              obtain ⟨la', lc', hform⟩ := hpick.form
              subst hform
              clear hpick hrun HSTEP q0 q1 q2 t0 c0 c1 c2 hne
              go_wp2_with (at_builtin; refine wpList_step (fun K hK => step_append rfl _ _ 22 rfl _ _ _ rfl rfl HRUN.out (hK _ _ ?_)))
              go_roundg g'
              case measure => omega
              case rel => exact ⟨i + 1, by go_num, by have := HG0.out; omega, by rw [HD.out]; have h := HPK.out; rw [List.length_append, List.length_singleton] at h; exact h⟩
        · have hdd : decide ((i : Int) < (n1 : Int)) = false := by simp; omega
          have hall : L1.take i = L1 := List.take_of_length_le (by have := HN1.out; omega)
          rw [hall] at HP ⊢
          clear hall
          obtain ⟨w9, rfl⟩ : ∃ w9, w9 = wr := ⟨_, rfl⟩
          have HP1 := Lib.hid HP.out
          have HB9 := Lib.hid (below_then HB8.out HP.out.bel)
          have HG9 := Lib.hid (HG.out.below HP.out.bel)
          have HSG9 : Hid (∀ k, Sg k → k < w9.heap.size) := Lib.hid (fun k h => Nat.lt_of_lt_of_le (HSG.out k h) HP.out.bel.size)
          obtain ⟨M1, hM1⟩ : ∃ M1, L1.filter (fun f => kp k s t f.name) = M1 := ⟨_, rfl⟩
          rw [hM1] at HP1 HPURE ⊢
          have HM1 := Lib.hid hM1
          obtain ⟨la1, rfl⟩ : ∃ x, x = la := ⟨_, rfl⟩
          obtain ⟨lc1, rfl⟩ : ∃ x, x = lc := ⟨_, rfl⟩
          clear HP HG0 hM1
          go_wp2
          clear hlt hdd
          go_loopg [10, 12] n2 (fun g lst idx wr => ∃ (i : Nat), idx = .int .i64 (i : Int) ∧ g + i = n2 ∧ Pick w9 wr Sg lst ((L2.take i).filter (fun f => kp k s t f.name)))
          case atStart => exact ⟨0, rfl, rfl, Pick.nil _ _⟩
          case round =>
            obtain ⟨i, rfl, hg, hp⟩ := hrel
            have HG0 := Lib.hid hg
            have HP := Lib.hid hp
            obtain ⟨la, lc, hform⟩ := hp.form
            subst hform
            clear hg hp
            by_cases hlt : i < n2
            · obtain ⟨g', rfl⟩ : ∃ g', gk = g' + 1 := ⟨gk - 1, by have := HG0.out; omega⟩
              have hdd : decide ((i : Int) < (n2 : Int)) = true := by simp; omega
              obtain ⟨f, hf⟩ : ∃ f, L2[i]? = some f := ⟨L2[i]'(by have := HN2.out; omega), List.getElem?_eq_getElem _⟩
              obtain ⟨fb, fo, da, dcap, rfl, r0, r1, r2, hby⟩ := fils_byt HG9.out hf
              have hbe := HP.out.bel
              obtain ⟨c0, c1, c2, _, _, _, _⟩ := seven_below HBLK.out (below_then HB9.out hbe)
              dsimp only at c0 c1 c2
              have q0 : ∀ m, (wr.drewN m).cell? ⟨fb, fo + i * 3, none⟩ = some (.string f.name) := fun m => (World.cell?_of_block (a := ⟨fb, fo + i * 3, none⟩) (hbe.block fb (lt_of_cell r0))).trans r0
              have q1 : ∀ m, (wr.drewN m).cell? ⟨fb, fo + i * 3 + 1, none⟩ = some (.slice da f.data.length dcap) := fun m => (World.cell?_of_block (a := ⟨fb, fo + i * 3 + 1, none⟩) (hbe.block fb (lt_of_cell r1))).trans r1
              have q2 : ∀ m, (wr.drewN m).cell? ⟨fb, fo + i * 3 + 2, none⟩ = some (.int .i64 f.safe) := fun m => (World.cell?_of_block (a := ⟨fb, fo + i * 3 + 2, none⟩) (hbe.block fb (lt_of_cell r2))).trans r2
              have t0 : wr.cell? ⟨fb, fo + i * 3, none⟩ = some (.string f.name) := q0 0
              have hml : ((L2.take i).filter (fun f => kp k s t f.name)).length ≤ 1000 := Nat.le_trans (List.length_filter_le _ _) (Nat.le_trans (List.length_take_le _ _) (by have := HLEN2.out; have := HN2.out; omega))
              have HSTEP := Lib.hid (fun m => (HP.out.below (below_drewN wr m)).step HSG9.out hby hml (N := wr.heap.size) rfl)
              have hft := filter_take (p := fun f => kp k s t f.name) hf
              have HFT := Lib.hid hft
              clear hbe r0 r1 r2 hby hml hft hf
              obtain ⟨M, hM⟩ : ∃ M, (L2.take i).filter (fun f => kp k s t f.name) = M := ⟨_, rfl⟩
              rw [hM] at HP HSTEP HFT
              simp only [hM]
              clear hM
              by_cases hnm : f.name = s
              · have HD : Hid ((L2.take (i + 1)).filter (fun f => kp k s t f.name) = M) := Lib.hid (by
                  have hk : kp k s t f.name = false := by rw [hnm]; simp [kp]
                  rw [HFT.out, hk]; simp)
                rw [hnm] at t0
                have hee : (s.toList == s.toList) = true := by simp
                clear hnm HFT HSTEP q0 q1 q2
                go_wp2
                go_quiet (fail)
                go_wp2
                go_roundg g'
                case measure => omega
                case rel => exact ⟨i + 1, by go_num, by have := HG0.out; omega, by rw [HD.out]; exact HP.out.below (below_drewN wr _)⟩
              · have hne := toList_ne hnm
                by_cases hk5 : k = 5
                · by_cases hnt : f.name = t
                  · have HD : Hid ((L2.take (i + 1)).filter (fun f => kp k s t f.name) = M) := Lib.hid (by
                      have hk : kp k s t f.name = false := by rw [hnt, hk5]; simp [kp]
                      rw [HFT.out, hk]; simp)
                    rw [hk5] at c0
                    rw [hnt] at t0 hne
                    have hee : (t.toList == t.toList) = true := by simp
                    clear hnm hnt hk5 HFT HSTEP q0 q1 q2
                    go_wp2
                    go_quiet (fail)
                    go_wp2
                    go_roundg g'
                    case measure => omega
                    case rel => exact ⟨i + 1, by go_num, by have := HG0.out; omega, by rw [HD.out]; exact HP.out.below (below_drewN wr _)⟩
                  · have hne2 := toList_ne hnt
                    have HD : Hid ((L2.take (i + 1)).filter (fun f => kp k s t f.name) = M ++ [f]) := Lib.hid (by
                      have hk : kp k s t f.name = true := by simp [kp, hnm, hnt]
                      rw [HFT.out, hk]; simp)
                    rw [hk5] at c0
                    clear hnm hnt hk5 HFT
                    go_wp2
                    go_quiet (fail)
                    obtain ⟨v', w', hrun, hpick⟩ := HSTEP.out nq
                    have s0 := q0 nq
                    have s1 := q1 nq
                    have s2 := q2 nq
                    have HPK := Lib.hid hpick
                    have HRUN := Lib.hid hrun
                    obtain ⟨la', lc', hform⟩ := hpick.form
                    subst hform
                    clear hpick hrun HSTEP q0 q1 q2 t0 c0 c1 c2 hne hne2
                    go_wp2_with (at_builtin; refine wpList_step (fun K hK => step_append rfl _ _ 22 rfl _ _ _ rfl rfl HRUN.out (hK _ _ ?_)))
                    go_roundg g'
                    case measure => omega
                    case rel => exact ⟨i + 1, by go_num, by have := HG0.out; omega, by rw [HD.out]; have h := HPK.out; rw [List.length_append, List.length_singleton] at h; exact h⟩
                · have hk5b : decide (k = 5) = false := by simpa using hk5
                  have hk5c : (k == 5) = false := by simpa using hk5
                  have hk5d : (k != 5) = true := by simpa using hk5
                  have HD : Hid ((L2.take (i + 1)).filter (fun f => kp k s t f.name) = M ++ [f]) := Lib.hid (by
                    have hk : kp k s t f.name = true := by simp [kp, hnm, hk5]
                    rw [HFT.out, hk]; simp)
                  clear hnm hk5 HFT
                  go_wp2
                  go_quiet (fail)
                  obtain ⟨v', w', hrun, hpick⟩ := HSTEP.out nq
                  have s0 := q0 nq
                  have s1 := q1 nq
                  have s2 := q2 nq
                  have HPK := Lib.hid hpick
                  have HRUN := Lib.hid hrun
                  obtain ⟨la', lc', hform⟩ := hpick.form
                  subst hform
                  clear hpick hrun HSTEP q0 q1 q2 t0 c0 c1 c2 hne
                  go_wp2_with (at_builtin; refine wpList_step (fun K hK => step_append rfl _ _ 22 rfl _ _ _ rfl rfl HRUN.out (hK _ _ ?_)))
                  go_roundg g'
                  case measure => omega
                  case rel => exact ⟨i + 1, by go_num, by have := HG0.out; omega, by rw [HD.out]; have h := HPK.out; rw [List.length_append, List.length_singleton] at h; exact h⟩
            · have hdd : decide ((i : Int) < (n2 : Int)) = false := by simp; omega
              have hall : L2.take i = L2 := List.take_of_length_le (by have := HN2.out; omega)
              rw [hall] at HP ⊢
              clear hall
              obtain ⟨xa, xc, Sx, hx, hfx⟩ := (HP1.out.below HP.out.bel).fils
              obtain ⟨rfl, _, rfl⟩ := Value.slice.inj hx
              obtain ⟨ya, yc, Sy, hy, hfy⟩ := HP.out.fils
              obtain ⟨rfl, _, rfl⟩ := Value.slice.inj hy
              rw [HPURE.out] at hfy ⊢
              have hdm : ∀ f ∈ M1, f.data.length ≤ 1073741824 := fun f hf => HDL1.out f (by rw [← HM1.out] at hf; exact (List.mem_filter.1 hf).1)
              have hmm : M1.length ≤ 1073741824 := by rw [← HM1.out]; exact Nat.le_trans (List.length_filter_le _ _) (by have := HLEN1.out; omega)
              have hsame := same_calls _ _ M1 M1 lc1 lc M1.length M1.length wr hfx hfy rfl rfl hmm hmm hdm hdm
              rw [sameB_eq.2 rfl] at hsame
              have HSAME := Lib.hid hsame
              have HBE := Lib.hid (below_then HBEL.out (below_then HB9.out HP.out.bel))
              clear hx hfx hy hfy hdm hmm hsame
              go_wp2_with fail
              with_reducible refine HSAME.out.mono ?_
              rintro e w10 ⟨rfl, q, rfl⟩
              go_wp2
              go_ret
              exact ⟨rfl, below_then HBE.out (below_drewN wr q)⟩

end Go.Proofs.Ytfiacojgddpphaa
