/-
  The walk of the law DiskPlays at every list of files, every room and every steps. Conditions: no list and no file is longer than 2 to the 48; the arguments lie in memory.
-/
import Derived.Test.YtfiacojgddpphaaLawV
import Derived.Test.YtfiacojgddpphaaAwake
import Derived.Test.YtfiacojgddpphaaLawMoves
namespace Go.Proofs.Ytfiacojgddpphaa
open Go.RowKit Go.Lib Go.Joins

/-- What the law reads of the reference's disk. -/
theorem ref_cells {w : World} {S : Nat → Prop} {B : Nat} {d : Dsk} (h : RefD w S B d) : ∃ la lc ops dn n1, Fils w S la (d.L.map toI) ∧ (∀ W, Below w.heap.size w W → W.cell? ⟨B, 1, none⟩ = some (.slice la n1 lc) ∧ W.cell? ⟨B, 3, none⟩ = some (.int .i64 ops) ∧ W.cell? ⟨B, 4, none⟩ = some (.bool dn)) ∧ d.L.length = n1 ∧ d.ops = ops ∧ d.down = dn := by
  obtain ⟨_, _, lv, ta, tn, tc, Sd, St, h⟩ := h
  obtain ⟨la, lc, rfl, hf, _⟩ := h.fils
  refine ⟨la, lc, _, _, _, hf, fun W hb => ?_, rfl, rfl, rfl⟩
  have hb2 := block_below hb h.blk
  exact ⟨(cell_of_block hb2 1).trans rfl, (cell_of_block hb2 3).trans rfl, (cell_of_block hb2 4).trans rfl⟩

set_option maxRecDepth 100000 in
set_option maxHeartbeats 32000000 in
theorem law_plays (a : Option Addr) (L : List FilI) (c n : Nat) (room : Int) (sa : Option Addr) (l : List DoI) (sc sn : Nat) (w : World) {S0 : Nat → Prop} (hr : Fils w S0 a L) (hn : L.length = n) (hb : n ≤ 281474976710656) (hd : ∀ f ∈ L, f.data.length ≤ 281474976710656) (hroom : room ≤ 9223372036854775807)
    (hl : Dos w S0 sa l) (hsn : l.length = sn) (hsb : sn ≤ 281474976710656) (hS0 : ∀ k, S0 k → k < w.heap.size) :
    Calls Try.prog 3 #[.slice a n c, .int .i64 room, .slice sa sn sc] w (Leaves (.bool true) w) := by
  have HR := Lib.hid hr
  have HN := Lib.hid hn
  have HD := Lib.hid hd
  have HL := Lib.hid hl
  have HSN := Lib.hid hsn
  have HS0 := Lib.hid hS0
  have HROOM := Lib.hid hroom
  clear hr hn hd hl hsn hS0 hroom
  go_enter Try.func3, Try.ntmps3
  go_wp2_with fail
  with_reducible refine (awake_calls w).mono ?_
  rintro e w1 ⟨rfl, hb1⟩
  have HB1 := Lib.hid hb1
  have HR1 := Lib.hid (HR.out.below hb1)
  clear hb1
  cases hsm : smallF L 0 0 with
  | false =>
    go_wp2_with fail
    have hc := small_calls a L c n w1 HR1.out HN.out hb HD.out
    rw [hsm] at hc
    with_reducible refine hc.mono ?_
    rintro e w2 ⟨rfl, q, rfl⟩
    go_wp2
    go_ret
    exact ⟨rfl, below_then HB1.out (below_drewN w1 q)⟩
  | true =>
    obtain ⟨ht1, hnm1, hlen1⟩ := smallF_total L 0 0 hsm
    have HT := Lib.hid ht1
    have HNM := Lib.hid hnm1
    have HLEN := Lib.hid hlen1
    have HSM := Lib.hid (small_calls a L c n w1 HR1.out HN.out hb HD.out)
    rw [hsm] at HSM
    clear ht1 hnm1 hlen1 hsm
    go_wp2_with fail
    with_reducible refine HSM.out.mono ?_
    rintro e w2 ⟨rfl, q, rfl⟩
    have HB2 := Lib.hid (below_then HB1.out (below_drewN w1 q))
    obtain ⟨w2, hw2⟩ : ∃ w2, w1.drewN q = w2 := ⟨_, rfl⟩
    rw [hw2] at HB2
    simp only [hw2]
    clear hw2 HSM HR1 HB1
    have HSD := Lib.hid (dsmall_calls sa l sc sn w2 (HL.out.below HB2.out) HSN.out hsb)
    go_wp2_with fail
    with_reducible refine HSD.out.mono ?_
    clear HSD
    rintro e w4 ⟨rfl, rfl⟩
    cases hsd : smallD l 0 with
    | false =>
      go_wp2
      go_ret
      exact ⟨rfl, HB2.out⟩
    | true =>
    have HX : Hid (∀ j x, l[j]? = some x → j < 60 → DoS x) := Lib.hid (fun j x hx hj => smallD_at hsd hx (by omega))
    clear hsd
    have hn100 : n ≤ 1000 := by have h1 := HN.out; rcases HLEN.out with h | h; omega; rw [h] at h1; simp at h1; omega
    have HLD := Lib.hid (load_calls a L c n room w2 (HR.out.below HB2.out) HN.out (by have := HT.out; omega) (fun f hf => by have := HNM.out f hf; omega) (by omega) HROOM.out)
    have HRLD := Lib.hid (fun W (hb : Below w2.heap.size w2 W) => rload_calls a L c n room W ((HR.out.below HB2.out).below hb) HN.out (by have := HT.out; omega) (fun f hf => by have := HNM.out f hf; omega) hn100 HROOM.out)
    cases hq : loadS L (dsk0 room) with
    | none =>
      rw [hq] at HLD HRLD
      clear hq
      go_wp2_with fail
      with_reducible refine HLD.out.mono ?_
      rintro e w5 ⟨rfl, hb5⟩
      go_wp2_with fail
      with_reducible refine (HRLD.out _ hb5).mono ?_
      rintro e w6 ⟨rfl, hb6⟩
      have HB6 := Lib.hid (below_then (below_then HB2.out hb5) hb6)
      clear hb5 hb6
      go_wp2
      go_ret
      exact ⟨rfl, HB6.out⟩
    | some d0 =>
      rw [hq] at HLD HRLD
      have hnew := (loadS_new (new_dsk0 room) hq).1
      have HSMA0 : Hid (Sma d0 0) := Lib.hid ⟨by rw [hnew.used]; have := HT.out; omega, by rw [hnew.ops]; decide, by rw [hnew.ops]; decide, by rw [hnew.tr]; decide⟩
      clear hq hnew
      go_wp2_with fail
      with_reducible refine HLD.out.mono ?_
      rintro e w5 ⟨B1, S1, rfl, hd5, hf5, hb5⟩
      have HL5 := Lib.hid (Live.born HB2.out hd5 hf5 hb5)
      have HB5 := Lib.hid hb5
      clear hd5 hf5 hb5
      go_wp2_with fail
      with_reducible refine (HRLD.out _ HB5.out).mono ?_
      rintro e w6 ⟨B2, S2, rfl, hd6, hf6, hb6⟩
      have HBO6 : Hid (Both w w6 S1 B1 d0 S2 B2 d0) := Lib.hid ⟨HL5.out.quiet hb6, hd6, fun k e => by
        rcases hf6 k e with h | h
        · exact h.elim
        · exact Nat.le_trans HL5.out.bel.size h, fun k e hk => by
        rcases hf6 k hk with h | h
        · exact h.elim
        · have := HL5.out.disk.2.1 k e; omega⟩
      clear hd6 hf6 hb6 HLD HRLD HT HNM HLEN HR HB2 HB5 HL5
      go_wp2
      go_loopg [11, 12, 13, 14, 15] sn (fun g idx _ _ _ _ wr => ∃ (i : Nat) (d : Dsk) (S1 S2 : Nat → Prop), idx = .int .i64 (i : Int) ∧ g + i = sn ∧ i ≤ 60 ∧ Both w wr S1 B1 d S2 B2 d ∧ Sma d i)
      case atStart => exact ⟨0, d0, S1, S2, rfl, rfl, by decide, HBO6.out, HSMA0.out⟩
      case round =>
        obtain ⟨i, d, S1, S2, rfl, hg, hi60, hbo, hsma⟩ := hrel
        have HG0 := Lib.hid hg
        have HBO := Lib.hid hbo
        have HSMA := Lib.hid hsma
        have HSML := Lib.hid (hsma.sml (by omega))
        clear hg hbo hsma HSMA0 HBO6
        by_cases hlt : i < sn ∧ i < 60
        · obtain ⟨hlt, h60⟩ := hlt
          obtain ⟨g', rfl⟩ : ∃ g', gk = g' + 1 := ⟨gk - 1, by have := HG0.out; omega⟩
          have hdd : decide ((i : Int) < (sn : Int)) = true := by simp; omega
          have hdd6 : decide ((i : Int) < 60) = true := by simp; omega
          have hi1 : (i : Int) < (sn : Int) := by omega
          have hi0 : (0 : Int) ≤ (i : Int) := by omega
          obtain ⟨x, hx⟩ : ∃ x, l[i]? = some x := ⟨l[i]'(by rw [HSN.out]; exact hlt), List.getElem?_eq_getElem _⟩
          have HXX := Lib.hid (HX.out i x hx h60)
          obtain ⟨b, o, dc, rfl, hv, c0, c1, c2, c3, c4, c5, c6⟩ := dos_at HL.out hx
          have HV := Lib.hid hv
          have HSM1 := Lib.hid (HSMA.out.act HBO.out.live.disk.1 HXX.out)
          have HSM2 : Hid (Sml (actS d x).2) := Lib.hid (HSM1.out.sml (by omega))
          have hoff : ∀ {w' : World} {S1' : Nat → Prop} {d' : Dsk}, Live w w' S1' B1 d' → Off S1' w' S0 := fun h => Off.old h HS0.out
          have HACT := Lib.hid (act_calls x dc (HBO.out.live.drewN 1) HSML.out (hv.below (HBO.out.live.drewN 1).bel) (hoff (HBO.out.live.drewN 1)) HXX.out)
          have HSAME0 : Hid (∀ W S1', Both w W S1' B1 (actS d x).2 S2 B2 d → Calls Try.prog 14 #[.pointer (some ⟨B2, 0, none⟩), .agg (doA x dc)] W (RDoes W S2 B2 (.int .i64 (actS d x).1) (actS d x).2)) := Lib.hid (fun W S1' h => rsame_calls x dc h.ref HSML.out (HV.out.below h.live.bel) (fun k e hk => by have := HS0.out k e; have := h.own k hk; omega) HXX.out (by have := HSMA.out.tr; omega))
          have HSAMEC : Hid (∀ W (b1 b2 : Option Addr) (c1 c2 : Nat) (T1 T2 : Nat → Prop) (n1 : Nat), Fils W T1 b1 ((actS d x).2.L.map toI) → Fils W T2 b2 ((actS d x).2.L.map toI) → (actS d x).2.L.length = n1 → Calls Try.prog 15 #[.slice b1 n1 c1, .slice b2 n1 c2] W (Tells (.bool true) W)) := Lib.hid (fun W b1 b2 c1 c2 T1 T2 n1 h1 h2 h3 => by
            have hd1 : ∀ f ∈ (actS d x).2.L.map toI, f.data.length ≤ 1073741824 := fun f hf => by
              obtain ⟨g, hg, rfl⟩ := List.mem_map.1 hf
              exact Nat.le_trans (used_mem hg) HSM2.out.used
            have hl1 : ((actS d x).2.L.map toI).length = n1 := by rw [List.length_map]; exact h3
            have hi1 := (inv_actS HBO.out.live.disk.1 x HV.out.row.1).most
            have := same_calls b1 b2 _ _ c1 c2 n1 n1 W h1 h2 hl1 hl1 (by omega) (by omega) hd1 hd1
            rw [sameB_eq.2 rfl] at this
            exact this)
          obtain ⟨xk, hxk⟩ : ∃ y, x.kind = y := ⟨_, rfl⟩
          obtain ⟨xn, hxn⟩ : ∃ y, x.name = y := ⟨_, rfl⟩
          obtain ⟨xt, hxt⟩ : ∃ y, x.to = y := ⟨_, rfl⟩
          obtain ⟨xi, hxi⟩ : ∃ y, x.n = y := ⟨_, rfl⟩
          obtain ⟨xb, hxb⟩ : ∃ y, x.b.length = y := ⟨_, rfl⟩
          obtain ⟨xts, hxts⟩ : ∃ y, x.tails.length = y := ⟨_, rfl⟩
          obtain ⟨xl, hxl⟩ : ∃ y, x.list.length = y := ⟨_, rfl⟩
          have hda : doA x dc = #[.int .i64 xk, .string xn, .string xt, .int .i64 xi, .slice dc.ab xb dc.cb, .slice dc.at_ xts dc.ct, .slice dc.al xl dc.cl] := by rw [← hxk, ← hxn, ← hxt, ← hxi, ← hxb, ← hxts, ← hxl]
          rw [hda] at HACT HSAME0
          rw [hxk] at c0
          rw [hxn] at c1
          rw [hxt] at c2
          rw [hxi] at c3
          rw [hxb] at c4
          rw [hxts] at c5
          rw [hxl] at c6
          have HSC : Hid (∀ W, Below w.heap.size w W → W.cell? ⟨b, o + i * 7, none⟩ = some (.int .i64 xk) ∧ W.cell? ⟨b, o + i * 7 + 1, none⟩ = some (.string xn) ∧ W.cell? ⟨b, o + i * 7 + 2, none⟩ = some (.string xt) ∧ W.cell? ⟨b, o + i * 7 + 3, none⟩ = some (.int .i64 xi) ∧ W.cell? ⟨b, o + i * 7 + 4, none⟩ = some (.slice dc.ab xb dc.cb) ∧ W.cell? ⟨b, o + i * 7 + 5, none⟩ = some (.slice dc.at_ xts dc.ct) ∧ W.cell? ⟨b, o + i * 7 + 6, none⟩ = some (.slice dc.al xl dc.cl)) := Lib.hid (fun W hb =>
            ⟨(World.cell?_of_block (a := ⟨b, o + i * 7, none⟩) (hb.block b (lt_of_cell c0))).trans c0, (World.cell?_of_block (a := ⟨b, o + i * 7 + 1, none⟩) (hb.block b (lt_of_cell c1))).trans c1, (World.cell?_of_block (a := ⟨b, o + i * 7 + 2, none⟩) (hb.block b (lt_of_cell c2))).trans c2, (World.cell?_of_block (a := ⟨b, o + i * 7 + 3, none⟩) (hb.block b (lt_of_cell c3))).trans c3,
              (World.cell?_of_block (a := ⟨b, o + i * 7 + 4, none⟩) (hb.block b (lt_of_cell c4))).trans c4, (World.cell?_of_block (a := ⟨b, o + i * 7 + 5, none⟩) (hb.block b (lt_of_cell c5))).trans c5, (World.cell?_of_block (a := ⟨b, o + i * 7 + 6, none⟩) (hb.block b (lt_of_cell c6))).trans c6⟩)
          have HB0 : Hid (Below w.heap.size w wr.drew) := Lib.hid (HBO.out.live.drewN 1).bel
          have HXN := Lib.hid hxn
          have hxnz : xn.size ≤ 1099511627776 := by rw [← hxn]; have := HXX.out.name; omega
          clear hxk hxn hxt hxi hxb hxts hxl hda hx hv hoff c0 c1 c2 c3 c4 c5 c6
          have HBO' := HBO
          clear HBO
          have HBO : Hid (Both w wr.drew S1 B1 d S2 B2 d) := Lib.hid (HBO'.out.quiet (below_drewN wr 1))
          clear HBO'
          go_wp2
          refine wp_region_held_drew (S := fun W => W.cell? ⟨b, o + i * 7, none⟩ = some (.int .i64 xk) ∧ W.cell? ⟨b, o + i * 7 + 1, none⟩ = some (.string xn) ∧ W.cell? ⟨b, o + i * 7 + 2, none⟩ = some (.string xt) ∧ W.cell? ⟨b, o + i * 7 + 3, none⟩ = some (.int .i64 xi) ∧ W.cell? ⟨b, o + i * 7 + 4, none⟩ = some (.slice dc.ab xb dc.cb) ∧ W.cell? ⟨b, o + i * 7 + 5, none⟩ = some (.slice dc.at_ xts dc.ct) ∧ W.cell? ⟨b, o + i * 7 + 6, none⟩ = some (.slice dc.al xl dc.cl)) (by kernel_rfl) (HSC.out _ HB0.out) (fun hHeld => ?_)
          refine wpAnyH_take (i := 0) (v := ?_) rfl (by kernel_rfl) (by kernel_rfl) (by kernel_rfl) (fun _ _ _ h => h) (Or.inl ⟨by rfl, ?_⟩) (by assumption) ?_
          rotate_left
          · intro W hS
            try dsimp only at hS
            go_simp
            try with_reducible rfl
          simp only [List.getElem_toArray, List.getElem_cons_zero, Act.put, List.setIfInBounds_toArray, List.set_cons_zero, List.set_cons_succ]
          refine wpAnyH_take (i := 1) (v := ?_) rfl (by kernel_rfl) (by kernel_rfl) (by kernel_rfl) (fun _ _ _ h => h) (Or.inl ⟨by rfl, ?_⟩) (by assumption) ?_
          rotate_left
          · intro W hS
            try dsimp only at hS
            go_simp
            try with_reducible rfl
          simp only [List.getElem_toArray, List.getElem_cons_succ, List.getElem_cons_zero, Act.put, List.setIfInBounds_toArray, List.set_cons_zero, List.set_cons_succ]
          refine wpAnyH_take (i := 2) (v := ?_) rfl (by kernel_rfl) (by kernel_rfl) (by kernel_rfl) (fun _ _ _ h => h) (Or.inl ⟨by rfl, ?_⟩) (by assumption) ?_
          rotate_left
          · intro W hS
            try dsimp only at hS
            go_simp
            try with_reducible rfl
          simp only [List.getElem_toArray, List.getElem_cons_succ, List.getElem_cons_zero, Act.put, List.setIfInBounds_toArray, List.set_cons_zero, List.set_cons_succ]
          refine wpAnyH_take (i := 3) (v := ?_) rfl (by kernel_rfl) (by kernel_rfl) (by kernel_rfl) (fun _ _ _ h => h) (Or.inl ⟨by rfl, ?_⟩) (by assumption) ?_
          rotate_left
          · intro W hS
            try dsimp only at hS
            go_simp
            try with_reducible rfl
          simp only [List.getElem_toArray, List.getElem_cons_succ, List.getElem_cons_zero, Act.put, List.setIfInBounds_toArray, List.set_cons_zero, List.set_cons_succ]
          refine wpAnyH_take (i := 4) (v := ?_) rfl (by kernel_rfl) (by kernel_rfl) (by kernel_rfl) (fun _ _ _ h => h) (Or.inl ⟨by rfl, ?_⟩) (by assumption) ?_
          rotate_left
          · intro W hS
            try dsimp only at hS
            go_simp
            try with_reducible rfl
          simp only [List.getElem_toArray, List.getElem_cons_succ, List.getElem_cons_zero, Act.put, List.setIfInBounds_toArray, List.set_cons_zero, List.set_cons_succ]
          refine wpAnyH_take (i := 6) (v := ?_) rfl (by kernel_rfl) (by kernel_rfl) (by kernel_rfl) (fun _ _ _ h => h) (Or.inl ⟨by rfl, ?_⟩) (by assumption) ?_
          rotate_left
          · intro W hS
            try dsimp only at hS
            go_simp
            try with_reducible rfl
          simp only [List.getElem_toArray, List.getElem_cons_succ, List.getElem_cons_zero, Act.put, List.setIfInBounds_toArray, List.set_cons_zero, List.set_cons_succ]
          refine wpAnyH_take (i := 7) (v := ?_) rfl (by kernel_rfl) (by kernel_rfl) (by kernel_rfl) (fun _ _ _ h => h) (Or.inl ⟨by rfl, ?_⟩) (by assumption) ?_
          rotate_left
          · intro W hS
            try dsimp only at hS
            go_simp
            try with_reducible rfl
          simp only [List.getElem_toArray, List.getElem_cons_succ, List.getElem_cons_zero, Act.put, List.setIfInBounds_toArray, List.set_cons_zero, List.set_cons_succ]
          refine wpAnyH_take (i := 8) (v := ?_) rfl (by kernel_rfl) (by kernel_rfl) (by kernel_rfl) (fun _ _ _ h => h) (Or.inl ⟨by rfl, ?_⟩) (by assumption) ?_
          rotate_left
          · intro W hS
            try dsimp only at hS
            go_simp
            try with_reducible rfl
          simp only [List.getElem_toArray, List.getElem_cons_succ, List.getElem_cons_zero, Act.put, List.setIfInBounds_toArray, List.set_cons_zero, List.set_cons_succ]
          refine wpAnyH_take (i := 9) (v := ?_) rfl (by kernel_rfl) (by kernel_rfl) (by kernel_rfl) (fun _ _ _ h => h) (Or.inl ⟨by rfl, ?_⟩) (by assumption) ?_
          rotate_left
          · intro W hS
            try dsimp only at hS
            go_simp
            try with_reducible rfl
          simp only [List.getElem_toArray, List.getElem_cons_succ, List.getElem_cons_zero, Act.put, List.setIfInBounds_toArray, List.set_cons_zero, List.set_cons_succ]
          refine wpAnyH_take (i := 10) (v := ?_) rfl (by kernel_rfl) (by kernel_rfl) (by kernel_rfl) (fun _ _ _ h => h) (Or.inl ⟨by rfl, ?_⟩) (by assumption) ?_
          rotate_left
          · intro W hS
            try dsimp only at hS
            go_simp
            try with_reducible rfl
          simp only [List.getElem_toArray, List.getElem_cons_succ, List.getElem_cons_zero, Act.put, List.setIfInBounds_toArray, List.set_cons_zero, List.set_cons_succ]
          refine wpAnyH_ready (rs := [5]) (by kernel_rfl) (by simp) ?_
          refine AllReadyH.cons rfl (fun K hK => ?_) AllReadyH.nil
          go_simp
          refine (HACT.out).mono ?_
          rintro e w6 ⟨rfl, ht6⟩
          obtain ⟨S1b, hb6⟩ := HBO.out.turn1 ht6
          have HB6 := Lib.hid hb6
          clear ht6 hb6
          refine hK.out _ _ (HSC.out _ HB6.out.live.bel) (fun hHeld => ?_)
          clear hK K
          try simp only [List.getElem_toArray, List.getElem_cons_succ, List.getElem_cons_zero, Act.put, List.setIfInBounds_toArray, List.set_cons_zero, List.set_cons_succ]
          refine wpAnyH_ready (rs := [11]) (by kernel_rfl) (by simp) ?_
          refine AllReadyH.cons rfl (fun K hK => ?_) AllReadyH.nil
          go_simp
          refine (HSAME0.out _ _ HB6.out).mono ?_
          rintro e w7 ⟨rfl, ht7⟩
          obtain ⟨S2b, hb7⟩ := HB6.out.turn2 ht7
          have HB7 := Lib.hid hb7
          clear ht7 hb7
          refine hK.out _ _ (HSC.out _ HB7.out.live.bel) (fun hHeld => ?_)
          clear hK K
          try simp only [List.getElem_toArray, List.getElem_cons_succ, List.getElem_cons_zero, Act.put, List.setIfInBounds_toArray, List.set_cons_zero, List.set_cons_succ]
          obtain ⟨la, lc, ops, dn, n1, hla, hq2, hn1, hops, hdn⟩ := ref_cells HB7.out.ref
          have HQ2 := Lib.hid hq2
          have HLA := Lib.hid hla
          have HN1 := Lib.hid hn1
          have HOPS := Lib.hid hops
          have HDN := Lib.hid hdn
          have HS7 : Hid (∀ W, Below w7.heap.size w7 W → W.cell? ⟨b, o + i * 7, none⟩ = some (.int .i64 xk) ∧ W.cell? ⟨b, o + i * 7 + 1, none⟩ = some (.string xn) ∧ W.cell? ⟨b, o + i * 7 + 2, none⟩ = some (.string xt) ∧ W.cell? ⟨b, o + i * 7 + 3, none⟩ = some (.int .i64 xi) ∧ W.cell? ⟨b, o + i * 7 + 4, none⟩ = some (.slice dc.ab xb dc.cb) ∧ W.cell? ⟨b, o + i * 7 + 5, none⟩ = some (.slice dc.at_ xts dc.ct) ∧ W.cell? ⟨b, o + i * 7 + 6, none⟩ = some (.slice dc.al xl dc.cl) ∧ W.cell? ⟨B2, 1, none⟩ = some (.slice la n1 lc) ∧ W.cell? ⟨B2, 3, none⟩ = some (.int .i64 ops) ∧ W.cell? ⟨B2, 4, none⟩ = some (.bool dn)) := Lib.hid (fun W hb => by
            obtain ⟨s0, s1, s2, s3, s4, s5, s6⟩ := HSC.out W (below_then HB7.out.live.bel hb)
            exact ⟨s0, s1, s2, s3, s4, s5, s6, HQ2.out W hb⟩)
          have HFILES := Lib.hid (fun W (h : Live w W S1b B1 (actS d x).2) => files_calls W h.disk HSM2.out.used)
          have HUSED := Lib.hid (fun W (h : Live w W S1b B1 (actS d x).2) => used_live h HSM2.out.used)
          have HRUSED := Lib.hid (fun W (h : RefD W S2b B2 (actS d x).2) => rused_calls W h HSM2.out.used)
          clear hla hq2 hn1 hops hdn hHeld
          refine wpAnyH_more (S2 := fun W => W.cell? ⟨b, o + i * 7, none⟩ = some (.int .i64 xk) ∧ W.cell? ⟨b, o + i * 7 + 1, none⟩ = some (.string xn) ∧ W.cell? ⟨b, o + i * 7 + 2, none⟩ = some (.string xt) ∧ W.cell? ⟨b, o + i * 7 + 3, none⟩ = some (.int .i64 xi) ∧ W.cell? ⟨b, o + i * 7 + 4, none⟩ = some (.slice dc.ab xb dc.cb) ∧ W.cell? ⟨b, o + i * 7 + 5, none⟩ = some (.slice dc.at_ xts dc.ct) ∧ W.cell? ⟨b, o + i * 7 + 6, none⟩ = some (.slice dc.al xl dc.cl) ∧ W.cell? ⟨B2, 1, none⟩ = some (.slice la n1 lc) ∧ W.cell? ⟨B2, 3, none⟩ = some (.int .i64 ops) ∧ W.cell? ⟨B2, 4, none⟩ = some (.bool dn)) (fun W h => ⟨h.1, h.2.1, h.2.2.1, h.2.2.2.1, h.2.2.2.2.1, h.2.2.2.2.2.1, h.2.2.2.2.2.2.1⟩) _ _ _ _ ?_
          have hHeld := HS7.out w7 (Below.refl _ _)
          refine wpAnyH_take (i := 12) (v := ?_) rfl (by kernel_rfl) (by kernel_rfl) (by kernel_rfl) (fun _ _ _ h => h) (Or.inl ⟨by rfl, ?_⟩) (by assumption) ?_
          rotate_left
          · intro W hS
            try dsimp only at hS
            go_simp
            try with_reducible rfl
          simp only [List.getElem_toArray, List.getElem_cons_succ, List.getElem_cons_zero, Act.put, List.setIfInBounds_toArray, List.set_cons_zero, List.set_cons_succ]
          refine wpAnyH_take (i := 13) (v := ?_) rfl (by kernel_rfl) (by kernel_rfl) (by kernel_rfl) (fun _ _ _ h => h) (Or.inl ⟨by rfl, ?_⟩) (by assumption) ?_
          rotate_left
          · intro W hS
            try dsimp only at hS
            go_simp
            try with_reducible rfl
          simp only [List.getElem_toArray, List.getElem_cons_succ, List.getElem_cons_zero, Act.put, List.setIfInBounds_toArray, List.set_cons_zero, List.set_cons_succ]
          refine wpAnyH_take (i := 14) (v := ?_) rfl (by kernel_rfl) (by kernel_rfl) (by kernel_rfl) (fun _ _ _ h => h) (Or.inl ⟨by rfl, ?_⟩) (by assumption) ?_
          rotate_left
          · intro W hS
            try dsimp only at hS
            go_simp
            try with_reducible rfl
          simp only [List.getElem_toArray, List.getElem_cons_succ, List.getElem_cons_zero, Act.put, List.setIfInBounds_toArray, List.set_cons_zero, List.set_cons_succ]
          refine wpAnyH_take (i := 16) (v := ?_) rfl (by kernel_rfl) (by kernel_rfl) (by kernel_rfl) (fun _ _ _ h => h) (Or.inl ⟨by rfl, ?_⟩) (by assumption) ?_
          rotate_left
          · intro W hS
            try dsimp only at hS
            go_simp
            try with_reducible rfl
          simp only [List.getElem_toArray, List.getElem_cons_succ, List.getElem_cons_zero, Act.put, List.setIfInBounds_toArray, List.set_cons_zero, List.set_cons_succ]
          refine wpAnyH_take (i := 17) (v := ?_) rfl (by kernel_rfl) (by kernel_rfl) (by kernel_rfl) (fun _ _ _ h => h) (Or.inl ⟨by rfl, ?_⟩) (by assumption) ?_
          rotate_left
          · intro W hS
            try dsimp only at hS
            go_simp
            try with_reducible rfl
          simp only [List.getElem_toArray, List.getElem_cons_succ, List.getElem_cons_zero, Act.put, List.setIfInBounds_toArray, List.set_cons_zero, List.set_cons_succ]
          refine wpAnyH_take (i := 18) (v := ?_) rfl (by kernel_rfl) (by kernel_rfl) (by kernel_rfl) (fun _ _ _ h => h) (Or.inl ⟨by rfl, ?_⟩) (by assumption) ?_
          rotate_left
          · intro W hS
            try dsimp only at hS
            go_simp
            try with_reducible rfl
          simp only [List.getElem_toArray, List.getElem_cons_succ, List.getElem_cons_zero, Act.put, List.setIfInBounds_toArray, List.set_cons_zero, List.set_cons_succ]
          refine wpAnyH_take (i := 19) (v := ?_) rfl (by kernel_rfl) (by kernel_rfl) (by kernel_rfl) (fun _ _ _ h => h) (Or.inl ⟨by rfl, ?_⟩) (by assumption) ?_
          rotate_left
          · intro W hS
            try dsimp only at hS
            go_simp
            try with_reducible rfl
          simp only [List.getElem_toArray, List.getElem_cons_succ, List.getElem_cons_zero, Act.put, List.setIfInBounds_toArray, List.set_cons_zero, List.set_cons_succ]
          refine wpAnyH_ready (rs := [15]) (by kernel_rfl) (by simp) ?_
          refine AllReadyH.cons rfl (fun K hK => ?_) AllReadyH.nil
          go_simp
          refine (HFILES.out _ HB7.out.live).mono ?_
          rintro e w8 ⟨fa, fc, Sf, rfl, hf8, _, _, _, hSf, hb8⟩
          have HBL8 := Lib.hid hb8
          have HF8 := Lib.hid hf8
          clear hf8 hb8 hSf
          rw [List.length_map, HN1.out]
          refine hK.out _ _ (HS7.out _ HBL8.out) (fun hHeld => ?_)
          clear hK K
          try simp only [List.getElem_toArray, List.getElem_cons_succ, List.getElem_cons_zero, Act.put, List.setIfInBounds_toArray, List.set_cons_zero, List.set_cons_succ]
          refine wpAnyH_ready (rs := [20]) (by kernel_rfl) (by simp) ?_
          refine AllReadyH.cons rfl (fun K hK => ?_) AllReadyH.nil
          go_simp
          refine ((HSAMEC.out _ _ _ _ _ _ _ _ HF8.out ((HLA.out).below HBL8.out) HN1.out)).mono ?_
          rintro e w9 ⟨rfl, k9, rfl⟩
          have HBL9 : Hid (Below w7.heap.size w7 (w8.drewN k9)) := Lib.hid (below_then HBL8.out (below_drewN w8 k9))
          obtain ⟨w9, hw9⟩ : ∃ w9, w8.drewN k9 = w9 := ⟨_, rfl⟩
          rw [hw9] at HBL9
          try simp only [hw9]
          clear hw9
          refine hK.out _ _ (HS7.out _ HBL9.out) (fun hHeld => ?_)
          clear hK K
          try simp only [List.getElem_toArray, List.getElem_cons_succ, List.getElem_cons_zero, Act.put, List.setIfInBounds_toArray, List.set_cons_zero, List.set_cons_succ]
          refine wpAnyH_take (i := 21) (v := ?_) rfl (by kernel_rfl) (by kernel_rfl) (by kernel_rfl) (fun _ _ _ h => h) (Or.inl ⟨by rfl, ?_⟩) (by assumption) ?_
          rotate_left
          · intro W hS
            try dsimp only at hS
            go_simp
            try with_reducible rfl
          simp only [List.getElem_toArray, List.getElem_cons_succ, List.getElem_cons_zero, Act.put, List.setIfInBounds_toArray, List.set_cons_zero, List.set_cons_succ]
          refine wpAnyH_take (i := 22) (v := ?_) rfl (by kernel_rfl) (by kernel_rfl) (by kernel_rfl) (fun _ _ _ h => h) (Or.inl ⟨by rfl, ?_⟩) (by assumption) ?_
          rotate_left
          · intro W hS
            try dsimp only at hS
            go_simp
            try with_reducible rfl
          simp only [List.getElem_toArray, List.getElem_cons_succ, List.getElem_cons_zero, Act.put, List.setIfInBounds_toArray, List.set_cons_zero, List.set_cons_succ]
          refine wpAnyH_take (i := 23) (v := ?_) rfl (by kernel_rfl) (by kernel_rfl) (by kernel_rfl) (fun _ _ _ h => h) (Or.inl ⟨by rfl, ?_⟩) (by assumption) ?_
          rotate_left
          · intro W hS
            try dsimp only at hS
            go_simp
            try with_reducible rfl
          simp only [List.getElem_toArray, List.getElem_cons_succ, List.getElem_cons_zero, Act.put, List.setIfInBounds_toArray, List.set_cons_zero, List.set_cons_succ]
          refine wpAnyH_take (i := 24) (v := ?_) rfl (by kernel_rfl) (by kernel_rfl) (by kernel_rfl) (fun _ _ _ h => h) (Or.inl ⟨by rfl, ?_⟩) (by assumption) ?_
          rotate_left
          · intro W hS
            try dsimp only at hS
            go_simp
            try with_reducible rfl
          simp only [List.getElem_toArray, List.getElem_cons_succ, List.getElem_cons_zero, Act.put, List.setIfInBounds_toArray, List.set_cons_zero, List.set_cons_succ]
          refine wpAnyH_take (i := 26) (v := ?_) rfl (by kernel_rfl) (by kernel_rfl) (by kernel_rfl) (fun _ _ _ h => h) (Or.inl ⟨by rfl, ?_⟩) (by assumption) ?_
          rotate_left
          · intro W hS
            try dsimp only at hS
            go_simp
            try with_reducible rfl
          simp only [List.getElem_toArray, List.getElem_cons_succ, List.getElem_cons_zero, Act.put, List.setIfInBounds_toArray, List.set_cons_zero, List.set_cons_succ]
          refine wpAnyH_ready (rs := [25]) (by kernel_rfl) (by simp) ?_
          refine AllReadyH.cons rfl (fun K hK => ?_) AllReadyH.nil
          go_simp
          refine (HUSED.out _ (HB7.out.quiet HBL9.out).live).mono ?_
          rintro e w10 ⟨rfl, hb10⟩
          have HBL10 : Hid (Below w7.heap.size w7 w10) := Lib.hid (below_then HBL9.out hb10)
          clear hb10
          refine hK.out _ _ (HS7.out _ HBL10.out) (fun hHeld => ?_)
          clear hK K
          try simp only [List.getElem_toArray, List.getElem_cons_succ, List.getElem_cons_zero, Act.put, List.setIfInBounds_toArray, List.set_cons_zero, List.set_cons_succ]
          refine wpAnyH_ready (rs := [27]) (by kernel_rfl) (by simp) ?_
          refine AllReadyH.cons rfl (fun K hK => ?_) AllReadyH.nil
          go_simp
          refine (HRUSED.out _ (HB7.out.quiet HBL10.out).ref).mono ?_
          rintro e w11 ⟨rfl, rfl⟩
          refine hK.out _ _ (HS7.out _ HBL10.out) (fun hHeld => ?_)
          clear hK K
          try simp only [List.getElem_toArray, List.getElem_cons_succ, List.getElem_cons_zero, Act.put, List.setIfInBounds_toArray, List.set_cons_zero, List.set_cons_succ]
          refine wpAnyH_take (i := 28) (v := ?_) rfl (by kernel_rfl) (by kernel_rfl) (by kernel_rfl) (fun _ _ _ h => h) (Or.inl ⟨by rfl, ?_⟩) (by assumption) ?_
          rotate_left
          · intro W hS
            try dsimp only at hS
            go_simp
            try with_reducible rfl
          simp only [List.getElem_toArray, List.getElem_cons_succ, List.getElem_cons_zero, Act.put, List.setIfInBounds_toArray, List.set_cons_zero, List.set_cons_succ]
          refine wpAnyH_take (i := 29) (v := ?_) rfl (by kernel_rfl) (by kernel_rfl) (by kernel_rfl) (fun _ _ _ h => h) (Or.inl ⟨by rfl, ?_⟩) (by assumption) ?_
          rotate_left
          · intro W hS
            try dsimp only at hS
            go_simp
            try with_reducible rfl
          simp only [List.getElem_toArray, List.getElem_cons_succ, List.getElem_cons_zero, Act.put, List.setIfInBounds_toArray, List.set_cons_zero, List.set_cons_succ]
          refine wpAnyH_take (i := 30) (v := ?_) rfl (by kernel_rfl) (by kernel_rfl) (by kernel_rfl) (fun _ _ _ h => h) (Or.inl ⟨by rfl, ?_⟩) (by assumption) ?_
          rotate_left
          · intro W hS
            try dsimp only at hS
            go_simp
            try with_reducible rfl
          simp only [List.getElem_toArray, List.getElem_cons_succ, List.getElem_cons_zero, Act.put, List.setIfInBounds_toArray, List.set_cons_zero, List.set_cons_succ]
          refine wpAnyH_take (i := 31) (v := ?_) rfl (by kernel_rfl) (by kernel_rfl) (by kernel_rfl) (fun _ _ _ h => h) (Or.inl ⟨by rfl, ?_⟩) (by assumption) ?_
          rotate_left
          · intro W hS
            try dsimp only at hS
            go_simp
            try with_reducible rfl
          simp only [List.getElem_toArray, List.getElem_cons_succ, List.getElem_cons_zero, Act.put, List.setIfInBounds_toArray, List.set_cons_zero, List.set_cons_succ]
          refine wpAnyH_take (i := 33) (v := ?_) rfl (by kernel_rfl) (by kernel_rfl) (by kernel_rfl) (fun _ _ _ h => h) (Or.inl ⟨by rfl, ?_⟩) (by assumption) ?_
          rotate_left
          · intro W hS
            try dsimp only at hS
            go_simp
            try with_reducible rfl
          simp only [List.getElem_toArray, List.getElem_cons_succ, List.getElem_cons_zero, Act.put, List.setIfInBounds_toArray, List.set_cons_zero, List.set_cons_succ]
          refine wpAnyH_take (i := 34) (v := ?_) rfl (by kernel_rfl) (by kernel_rfl) (by kernel_rfl) (fun _ _ _ h => h) (Or.inl ⟨by rfl, ?_⟩) (by assumption) ?_
          rotate_left
          · intro W hS
            try dsimp only at hS
            go_simp
            try with_reducible rfl
          simp only [List.getElem_toArray, List.getElem_cons_succ, List.getElem_cons_zero, Act.put, List.setIfInBounds_toArray, List.set_cons_zero, List.set_cons_succ]
          refine wpAnyH_take (i := 35) (v := ?_) rfl (by kernel_rfl) (by kernel_rfl) (by kernel_rfl) (fun _ _ _ h => h) (Or.inl ⟨by rfl, ?_⟩) (by assumption) ?_
          rotate_left
          · intro W hS
            try dsimp only at hS
            go_simp
            try with_reducible rfl
          simp only [List.getElem_toArray, List.getElem_cons_succ, List.getElem_cons_zero, Act.put, List.setIfInBounds_toArray, List.set_cons_zero, List.set_cons_succ]
          refine wpAnyH_take (i := 36) (v := ?_) rfl (by kernel_rfl) (by kernel_rfl) (by kernel_rfl) (fun _ _ _ h => h) (Or.inl ⟨by rfl, ?_⟩) (by assumption) ?_
          rotate_left
          · intro W hS
            try dsimp only at hS
            go_simp
            try with_reducible rfl
          simp only [List.getElem_toArray, List.getElem_cons_succ, List.getElem_cons_zero, Act.put, List.setIfInBounds_toArray, List.set_cons_zero, List.set_cons_succ]
          refine wpAnyH_ready (rs := [32]) (by kernel_rfl) (by simp) ?_
          refine AllReadyH.cons rfl (fun K hK => ?_) AllReadyH.nil
          go_simp
          refine (ops_calls _ (HB7.out.quiet HBL10.out).live.disk).mono ?_
          rintro e w12 ⟨rfl, rfl⟩
          rw [HOPS.out]
          refine hK.out _ _ (HS7.out _ HBL10.out) (fun hHeld => ?_)
          clear hK K
          try simp only [List.getElem_toArray, List.getElem_cons_succ, List.getElem_cons_zero, Act.put, List.setIfInBounds_toArray, List.set_cons_zero, List.set_cons_succ]
          refine wpAnyH_take (i := 37) (v := ?_) rfl (by kernel_rfl) (by kernel_rfl) (by kernel_rfl) (fun _ _ _ h => h) (Or.inl ⟨by rfl, ?_⟩) (by assumption) ?_
          rotate_left
          · intro W hS
            try dsimp only at hS
            go_simp
            try with_reducible rfl
          simp only [List.getElem_toArray, List.getElem_cons_succ, List.getElem_cons_zero, Act.put, List.setIfInBounds_toArray, List.set_cons_zero, List.set_cons_succ]
          refine wpAnyH_take (i := 38) (v := ?_) rfl (by kernel_rfl) (by kernel_rfl) (by kernel_rfl) (fun _ _ _ h => h) (Or.inl ⟨by rfl, ?_⟩) (by assumption) ?_
          rotate_left
          · intro W hS
            try dsimp only at hS
            go_simp
            try with_reducible rfl
          simp only [List.getElem_toArray, List.getElem_cons_succ, List.getElem_cons_zero, Act.put, List.setIfInBounds_toArray, List.set_cons_zero, List.set_cons_succ]
          refine wpAnyH_take (i := 39) (v := ?_) rfl (by kernel_rfl) (by kernel_rfl) (by kernel_rfl) (fun _ _ _ h => h) (Or.inl ⟨by rfl, ?_⟩) (by assumption) ?_
          rotate_left
          · intro W hS
            try dsimp only at hS
            go_simp
            try with_reducible rfl
          simp only [List.getElem_toArray, List.getElem_cons_succ, List.getElem_cons_zero, Act.put, List.setIfInBounds_toArray, List.set_cons_zero, List.set_cons_succ]
          refine wpAnyH_take (i := 40) (v := ?_) rfl (by kernel_rfl) (by kernel_rfl) (by kernel_rfl) (fun _ _ _ h => h) (Or.inl ⟨by rfl, ?_⟩) (by assumption) ?_
          rotate_left
          · intro W hS
            try dsimp only at hS
            go_simp
            try with_reducible rfl
          simp only [List.getElem_toArray, List.getElem_cons_succ, List.getElem_cons_zero, Act.put, List.setIfInBounds_toArray, List.set_cons_zero, List.set_cons_succ]
          refine wpAnyH_take (i := 42) (v := ?_) rfl (by kernel_rfl) (by kernel_rfl) (by kernel_rfl) (fun _ _ _ h => h) (Or.inl ⟨by rfl, ?_⟩) (by assumption) ?_
          rotate_left
          · intro W hS
            try dsimp only at hS
            go_simp
            try with_reducible rfl
          simp only [List.getElem_toArray, List.getElem_cons_succ, List.getElem_cons_zero, Act.put, List.setIfInBounds_toArray, List.set_cons_zero, List.set_cons_succ]
          refine wpAnyH_take (i := 43) (v := ?_) rfl (by kernel_rfl) (by kernel_rfl) (by kernel_rfl) (fun _ _ _ h => h) (Or.inl ⟨by rfl, ?_⟩) (by assumption) ?_
          rotate_left
          · intro W hS
            try dsimp only at hS
            go_simp
            try with_reducible rfl
          simp only [List.getElem_toArray, List.getElem_cons_succ, List.getElem_cons_zero, Act.put, List.setIfInBounds_toArray, List.set_cons_zero, List.set_cons_succ]
          refine wpAnyH_take (i := 44) (v := ?_) rfl (by kernel_rfl) (by kernel_rfl) (by kernel_rfl) (fun _ _ _ h => h) (Or.inl ⟨by rfl, ?_⟩) (by assumption) ?_
          rotate_left
          · intro W hS
            try dsimp only at hS
            go_simp
            try with_reducible rfl
          simp only [List.getElem_toArray, List.getElem_cons_succ, List.getElem_cons_zero, Act.put, List.setIfInBounds_toArray, List.set_cons_zero, List.set_cons_succ]
          refine wpAnyH_take (i := 45) (v := ?_) rfl (by kernel_rfl) (by kernel_rfl) (by kernel_rfl) (fun _ _ _ h => h) (Or.inl ⟨by rfl, ?_⟩) (by assumption) ?_
          rotate_left
          · intro W hS
            try dsimp only at hS
            go_simp
            try with_reducible rfl
          simp only [List.getElem_toArray, List.getElem_cons_succ, List.getElem_cons_zero, Act.put, List.setIfInBounds_toArray, List.set_cons_zero, List.set_cons_succ]
          refine wpAnyH_ready (rs := [41]) (by kernel_rfl) (by simp) ?_
          refine AllReadyH.cons rfl (fun K hK => ?_) AllReadyH.nil
          go_simp
          refine (down_calls _ (HB7.out.quiet HBL10.out).live.disk).mono ?_
          rintro e w13 ⟨rfl, rfl⟩
          rw [HDN.out]
          refine hK.out _ _ (HS7.out _ HBL10.out) (fun hHeld => ?_)
          clear hK K
          try simp only [List.getElem_toArray, List.getElem_cons_succ, List.getElem_cons_zero, Act.put, List.setIfInBounds_toArray, List.set_cons_zero, List.set_cons_succ]
          refine wpAnyH_take (i := 46) (v := ?_) rfl (by kernel_rfl) (by kernel_rfl) (by kernel_rfl) (fun _ _ _ h => h) (Or.inl ⟨by rfl, ?_⟩) (by assumption) ?_
          rotate_left
          · intro W hS
            try dsimp only at hS
            go_simp
            try with_reducible rfl
          simp only [List.getElem_toArray, List.getElem_cons_succ, List.getElem_cons_zero, Act.put, List.setIfInBounds_toArray, List.set_cons_zero, List.set_cons_succ]
          refine wpAnyH_take (i := 47) (v := ?_) rfl (by kernel_rfl) (by kernel_rfl) (by kernel_rfl) (fun _ _ _ h => h) (Or.inl ⟨by rfl, ?_⟩) (by assumption) ?_
          rotate_left
          · intro W hS
            try dsimp only at hS
            go_simp
            try with_reducible rfl
          simp only [List.getElem_toArray, List.getElem_cons_succ, List.getElem_cons_zero, Act.put, List.setIfInBounds_toArray, List.set_cons_zero, List.set_cons_succ]
          refine wpAnyH_done (by kernel_rfl) ?_ _
          have HB10 : Hid (Both w w10 S1b B1 (actS d x).2 S2b B2 (actS d x).2) := Lib.hid (HB7.out.quiet HBL10.out)
          have hn10 : w10.cell? ⟨b, o + i * 7 + 1, none⟩ = some (.string xn) := (HSC.out w10 HB10.out.live.bel).2.1
          obtain ⟨q, hq⟩ : ∃ q, fnd xn (actS d x).2.L = q := ⟨_, rfl⟩
          have hql : (dataO q).length ≤ 1073741824 := by
            rw [← hq]
            cases hf : fnd xn (actS d x).2.L with
            | none => exact Nat.zero_le _
            | some f => exact Nat.le_trans (used_mem (fnd_some hf).1) HSM2.out.used
          have HRD1 := Lib.hid (read_any xn HB10.out.live HSM2.out.used hxnz)
          have HRD2 := Lib.hid (fun W (h : RefD W S2b B2 (actS d x).2) => rread_calls xn W h HSM2.out.used)
          rw [hq] at HRD1
          simp only [hq] at HRD2
          clear hq hHeld HS7 HFILES HUSED HRUSED HF8 HQ2 HLA HACT HSAME0 HSAMEC
          obtain ⟨ln, hln⟩ : ∃ ln, (dataO q).length = ln := ⟨_, rfl⟩
          obtain ⟨cd, hcd⟩ : ∃ cd, codeO q = cd := ⟨_, rfl⟩
          have HLNN := Lib.hid hln
          have HCD := Lib.hid hcd
          rw [hln] at hql
          clear hln hcd
          go_wp2_with fail
          with_reducible refine HRD1.out.mono ?_
          rintro e w11 ⟨ra, rc, Sr, rfl, hrow11, _, hb11⟩
          rw [HLNN.out, HCD.out]
          have HB11 := Lib.hid (HB10.out.quiet hb11)
          have HROW11 := Lib.hid hrow11
          have hn11 : w11.cell? ⟨b, o + i * 7 + 1, none⟩ = some (.string xn) := (HSC.out w11 HB11.out.live.bel).2.1
          clear hrow11 hb11
          go_wp2_with fail
          with_reducible refine (HRD2.out _ HB11.out.ref).mono ?_
          rintro e w12 ⟨rb, rc2, Sr2, rfl, hrow12, _, hb12⟩
          rw [HLNN.out, HCD.out]
          have HB12 := Lib.hid (HB11.out.quiet hb12)
          have hby := bytes_calls ra rb (dataO q) (dataO q) rc rc2 ln ln w12 (HROW11.out.below hb12) hrow12 HLNN.out HLNN.out hql hql
          rw [decide_eq_true rfl] at hby
          have HBY := Lib.hid hby
          clear hrow12 hb12 hby
          go_wp2_with fail
          with_reducible refine HBY.out.mono ?_
          rintro e w13 ⟨rfl, k13, rfl⟩
          go_wp2
          go_roundg g'
          case measure => omega
          case rel => exact ⟨i + 1, (actS d x).2, S1b, S2b, by go_num, by have := HG0.out; omega, by omega, HB12.out.quiet (below_drewN w12 k13), HSM1.out⟩
        · have hex : (¬ i < sn ∧ decide ((i : Int) < (sn : Int)) = false) ∨ (i < sn ∧ decide ((i : Int) < (sn : Int)) = true ∧ ¬ i < 60 ∧ decide ((i : Int) < 60) = false) := by
            by_cases h1 : i < sn
            · exact .inr ⟨h1, by simp; omega, by omega, by simp; omega⟩
            · exact .inl ⟨h1, by simp; omega⟩
          clear hlt HG0
          obtain ⟨hinv, _, F, T, cs, hda⟩ := HBO.out.live.disk
          have hnm := names_calls wr hda hinv
          have HNAMES := Lib.hid hnm
          have hlen : (d.L.map Fil.name).length = d.L.length := List.length_map _
          obtain ⟨n1, hn1⟩ : ∃ n1, d.L.length = n1 := ⟨_, rfl⟩
          have hmost : n1 ≤ 64 := by rw [← hn1]; exact hinv.most
          have HLENN : Hid ((d.L.map Fil.name).length = n1) := Lib.hid (hlen.trans hn1)
          have HN1 := Lib.hid hn1
          clear hinv hda hnm hlen hn1
          rcases hex with ⟨hlt, hdd⟩ | ⟨hlt, hdd, hlt6, hd6⟩
          · skip
            go_wp2_with fail
            clear hdd hlt
            with_reducible refine HNAMES.out.mono ?_
            rintro e w8 ⟨v1, rfl, hown8, hb8⟩
            obtain ⟨a8, cap8, rfl, hcells⟩ := names_cells hown8
            rw [HLENN.out]
            have HC := Lib.hid hcells
            have HB8 := Lib.hid (HBO.out.quiet hb8)
            clear hown8 hb8 hcells
            go_wp2
            go_loopg [17] n1 (fun g idx wz => ∃ (j k : Nat), idx = .int .i64 (j : Int) ∧ g + j = n1 ∧ wz = w8.drewN k)
            case atStart => exact ⟨0, 0, rfl, rfl, rfl⟩
            case round =>
              obtain ⟨j, k, rfl, hg, rfl⟩ := hrel
              have HG1 := Lib.hid hg
              clear hg
              by_cases hlt : j < n1
              · obtain ⟨g', rfl⟩ : ∃ g', gk = g' + 1 := ⟨gk - 1, by have := HG1.out; omega⟩
                have hdd : decide ((j : Int) < (n1 : Int)) = true := by simp; omega
                have hde : decide ((n1 : Int) ≤ (j : Int)) = false := by simp; omega
                have hj1 : (j : Int) < (n1 : Int) := by omega
                have hj0 : (0 : Int) ≤ (j : Int) := by omega
                obtain ⟨f, hf⟩ : ∃ f, d.L[j]? = some f := ⟨d.L[j]'(by rw [HN1.out]; exact hlt), List.getElem?_eq_getElem _⟩
                obtain ⟨gr, lcr, _, _, _, _, _, dar, dcr, _, hfa⟩ := HB8.out.ref.2.file hf
                have z1 := hfa.b1
                have z2 := hfa.r0
                rw [HN1.out] at z1
                have hnj : (d.L.map Fil.name)[j]? = some f.name := by rw [List.getElem?_map, hf]; rfl
                obtain ⟨gn, rfl, _, hcn⟩ : ∃ g, a8 = some ⟨g, 0, none⟩ ∧ wr.heap.size ≤ g ∧ ∀ (i : Nat) (s : ByteArray), (d.L.map Fil.name)[i]? = some s → w8.cell? ⟨g, i, none⟩ = some (.string s) := by
                  rcases HC.out with h0 | h0
                  · rw [h0] at hnj; simp at hnj
                  · exact h0
                have z3 := hcn j f.name hnj
                obtain ⟨nm, hnm⟩ : ∃ nm, f.name = nm := ⟨_, rfl⟩
                rw [hnm] at z2 z3
                clear hcn hnj hfa hf hnm
                go_wp2
                go_quiet (fail)
                go_wp2
                go_roundg g'
                case measure => omega
                case rel => exact ⟨j + 1, _, by go_num, by have := HG1.out; omega, rfl⟩
              · have hdd : decide ((j : Int) < (n1 : Int)) = false := by simp; omega
                obtain ⟨la9, lc9, ops9, dn9, n9, _, hq9, hn9, _, _⟩ := ref_cells HB8.out.ref
                obtain rfl : n9 = n1 := hn9.symm.trans HN1.out
                have z1 := (hq9 w8 (Below.refl _ _)).1
                clear hq9 hn9
                go_wp2
                go_ret
                exact ⟨rfl, (HB8.out.quiet (below_drewN w8 k)).live.bel⟩
          · skip
            go_wp2_with fail
            clear hdd hd6 hlt hlt6
            with_reducible refine HNAMES.out.mono ?_
            rintro e w8 ⟨v1, rfl, hown8, hb8⟩
            obtain ⟨a8, cap8, rfl, hcells⟩ := names_cells hown8
            rw [HLENN.out]
            have HC := Lib.hid hcells
            have HB8 := Lib.hid (HBO.out.quiet hb8)
            clear hown8 hb8 hcells
            go_wp2
            go_loopg [17] n1 (fun g idx wz => ∃ (j k : Nat), idx = .int .i64 (j : Int) ∧ g + j = n1 ∧ wz = w8.drewN k)
            case atStart => exact ⟨0, 0, rfl, rfl, rfl⟩
            case round =>
              obtain ⟨j, k, rfl, hg, rfl⟩ := hrel
              have HG1 := Lib.hid hg
              clear hg
              by_cases hlt : j < n1
              · obtain ⟨g', rfl⟩ : ∃ g', gk = g' + 1 := ⟨gk - 1, by have := HG1.out; omega⟩
                have hdd : decide ((j : Int) < (n1 : Int)) = true := by simp; omega
                have hde : decide ((n1 : Int) ≤ (j : Int)) = false := by simp; omega
                have hj1 : (j : Int) < (n1 : Int) := by omega
                have hj0 : (0 : Int) ≤ (j : Int) := by omega
                obtain ⟨f, hf⟩ : ∃ f, d.L[j]? = some f := ⟨d.L[j]'(by rw [HN1.out]; exact hlt), List.getElem?_eq_getElem _⟩
                obtain ⟨gr, lcr, _, _, _, _, _, dar, dcr, _, hfa⟩ := HB8.out.ref.2.file hf
                have z1 := hfa.b1
                have z2 := hfa.r0
                rw [HN1.out] at z1
                have hnj : (d.L.map Fil.name)[j]? = some f.name := by rw [List.getElem?_map, hf]; rfl
                obtain ⟨gn, rfl, _, hcn⟩ : ∃ g, a8 = some ⟨g, 0, none⟩ ∧ wr.heap.size ≤ g ∧ ∀ (i : Nat) (s : ByteArray), (d.L.map Fil.name)[i]? = some s → w8.cell? ⟨g, i, none⟩ = some (.string s) := by
                  rcases HC.out with h0 | h0
                  · rw [h0] at hnj; simp at hnj
                  · exact h0
                have z3 := hcn j f.name hnj
                obtain ⟨nm, hnm⟩ : ∃ nm, f.name = nm := ⟨_, rfl⟩
                rw [hnm] at z2 z3
                clear hcn hnj hfa hf hnm
                go_wp2
                go_quiet (fail)
                go_wp2
                go_roundg g'
                case measure => omega
                case rel => exact ⟨j + 1, _, by go_num, by have := HG1.out; omega, rfl⟩
              · have hdd : decide ((j : Int) < (n1 : Int)) = false := by simp; omega
                obtain ⟨la9, lc9, ops9, dn9, n9, _, hq9, hn9, _, _⟩ := ref_cells HB8.out.ref
                obtain rfl : n9 = n1 := hn9.symm.trans HN1.out
                have z1 := (hq9 w8 (Below.refl _ _)).1
                clear hq9 hn9
                go_wp2
                go_ret
                exact ⟨rfl, (HB8.out.quiet (below_drewN w8 k)).live.bel⟩

end Go.Proofs.Ytfiacojgddpphaa
