/-
 Parse: a document's tree, or an error.
-/
import Derived.Test.YtjpkkflhcjjefaaGreatDoorXAt
namespace Go.Proofs.YtjpkkflhcjjefaaGreatDoor
open Go.RowKit Go.Lib Go.Joins
set_option maxHeartbeats 32000000
def set7 (w : World) (b : Nat) (v0 v1 v2 v3 v4 v5 v6 : Value) : World := ((((((w.setCell ⟨b, 0, none⟩ v0).setCell ⟨b, 1, none⟩ v1).setCell ⟨b, 2, none⟩ v2).setCell ⟨b, 3, none⟩ v3).setCell ⟨b, 4, none⟩ v4).setCell ⟨b, 5, none⟩ v5).setCell ⟨b, 6, none⟩ v6
theorem set7_heap {w : World} {b : Nat} {c0 c1 c2 c3 c4 c5 c6 : Value} {t : TypeId} (h : w.heap[b]? = some (.cells #[c0, c1, c2, c3, c4, c5, c6] t (0, 0))) (v0 v1 v2 v3 v4 v5 v6 : Value) : (set7 w b v0 v1 v2 v3 v4 v5 v6).heap[b]? = some (.cells #[v0, v1, v2, v3, v4, v5, v6] t (0, 0)) := by
 have h0 := block_setCell (i := 0) h v0
 simp only [List.setIfInBounds_toArray, List.set_cons_zero] at h0
 have h1 := block_setCell (i := 1) h0 v1
 simp only [List.setIfInBounds_toArray, List.set_cons_zero, List.set_cons_succ] at h1
 have h2 := block_setCell (i := 2) h1 v2
 simp only [List.setIfInBounds_toArray, List.set_cons_zero, List.set_cons_succ] at h2
 have h3 := block_setCell (i := 3) h2 v3
 simp only [List.setIfInBounds_toArray, List.set_cons_zero, List.set_cons_succ] at h3
 have h4 := block_setCell (i := 4) h3 v4
 simp only [List.setIfInBounds_toArray, List.set_cons_zero, List.set_cons_succ] at h4
 have h5 := block_setCell (i := 5) h4 v5
 simp only [List.setIfInBounds_toArray, List.set_cons_zero, List.set_cons_succ] at h5
 have h6 := block_setCell (i := 6) h5 v6
 simp only [List.setIfInBounds_toArray, List.set_cons_zero, List.set_cons_succ] at h6
 exact h6
theorem set7_keeps (w : World) (b : Nat) (v0 v1 v2 v3 v4 v5 v6 : Value) : Keeps (fun q => q = b) w (set7 w b v0 v1 v2 v3 v4 v5 v6) :=
 (((((((Keeps.refl (fun q => q = b) w).setCell (p := ⟨b, 0, none⟩) (.inl rfl) v0).setCell (p := ⟨b, 1, none⟩) (.inl rfl) v1).setCell (p := ⟨b, 2, none⟩) (.inl rfl) v2).setCell (p := ⟨b, 3, none⟩) (.inl rfl) v3).setCell (p := ⟨b, 4, none⟩) (.inl rfl) v4).setCell (p := ⟨b, 5, none⟩) (.inl rfl) v5).setCell (p := ⟨b, 6, none⟩) (.inl rfl) v6
def LoopP (w2 wr : World) (ts : List Tk) (i : Nat) : Prop :=
 ∃ (g : Gr) (S : Nat → Prop) (v ov : Value) (ps : List Addr) (bs : List (Option Nat)), growS ⟨[], [], 0⟩ ts = growS g (ts.drop i) ∧ GrW wr w2.heap.size w2.heap.size S g.top g.opens.reverse g.nodes v ov ps bs ∧ (∀ k, S k → k < wr.heap.size) ∧ Below w2.heap.size w2 wr ∧ GrOk (fun _ => true) g ∧ TxB (i * 262144) g ∧ AtG g
theorem GrW.more {w : World} {n0 gb nodes : Nat} {S : Nat → Prop} {ks : List Tr} {fs : List Fr} {v ov : Value} {ps : List Addr} {bs : List (Option Nat)} (h : GrW w n0 gb S ks fs nodes v ov ps bs) {t : Nat} (ht : gb ≠ t) (hb : some t ∉ bs) (ho : ov.ownBlock ≠ some t) : GrW w n0 gb (fun k => S k ∨ k = t) ks fs nodes v ov ps bs where
 blk := h.blk
 opn := h.opn
 spi := h.spi.keep (Keeps.refl Non w) (fun _ _ h => h) (fun _ h => .inl h) (fun _ _ h => h)
 dis := h.dis
 off := fun k hk => ⟨fun hs => by
  rcases hs with h1 | h1
  ·exact (h.off k hk).1 h1
  ·exact hb (h1 ▸ hk), (h.off k hk).2⟩
 sgb := fun hs => by
  rcases hs with h1 | h1
  ·exact h.sgb h1
  ·exact ht h1
 sov := fun k e => ⟨fun hs => by
  rcases hs with h1 | h1
  ·exact (h.sov k e).1 h1
  ·exact ho (h1 ▸ e), (h.sov k e).2⟩
 old := fun k hk => .inl (h.old k hk)
set_option maxRecDepth 100000 in
theorem parse_calls {w : World} {a : Option Addr} {c : Nat} {l : List UInt8} (hd : DocAt w a c l) (hE : EnvAt w) (hg : Handle w) (h15 : 15 ≤ w.heap.size) : Calls Tryz.prog 20 #[.slice a l.length c] w (ParseOut w (parseS l)) := by
 have HD := hid hd
 have HE := hid hE
 have HG := hid hg
 have H15 := hid h15
 obtain ⟨n, hn⟩ : ∃ n, l.length = n := ⟨_, rfl⟩
 have HN := hid hn
 rw [hn]
 obtain ⟨w0, hw0⟩ : ∃ W, w.alloc (.cells #[.slice none 0 0, .int .i64 0, .string ⟨#[]⟩, .string ⟨#[]⟩, .slice none 0 0, .slice none 0 0, .slice none 0 0] 27) = W := ⟨_, rfl⟩
 have hb0 : Below w.heap.size w w0 := by rw [← hw0]; exact (Below.refl _ _).alloc (Nat.le_refl _) _
 have hdb : w0.heap[w.heap.size]? = some (.cells #[.slice none 0 0, .int .i64 0, .string ⟨#[]⟩, .string ⟨#[]⟩, .slice none 0 0, .slice none 0 0, .slice none 0 0] 27 (0, 0)) := by rw [← hw0]; exact heap_alloc_new w _
 have HB0 := hid hb0
 have HDB := hid hdb
 have HA : Hid (Calls Tryz.prog 40 #[.slice a n c] w0 (AllOut w0 (allS l))) := hid (by
  have h := all_calls (HD.out.keep hb0) (HE.out.below hb0) (Nat.le_trans H15.out hb0.size)
  rw [hn] at h
  exact h)
 clear hd hE hg h15 hn hb0 hdb
 go_enter Tryz.func20, Tryz.ntmps20
 go_wp2_with fail
 with_reducible refine HA.out.mono ?_
 obtain ⟨Q, hQ⟩ : ∃ Q, allS l = Q := ⟨_, rfl⟩
 rw [hQ]
 have HQ := hid hQ
 clear hQ HA
 cases Q with
 | no cd p =>
  rintro e w2 ⟨ev, rfl, hcd, her, hb⟩
  have HB2 := hid (below_then HB0.out hb)
  have HDB2 := hid (block_keep HDB.out (keeps_below hb Non) (fun h => h))
  rcases her with ⟨h0, _⟩ | ⟨h0, eb, hev, e1, e2, e3⟩
  ·omega
  subst hev
  have hse : w0.heap.size ≤ eb := e3
  have hsz0 : w.heap.size < w0.heap.size := lt_of_block HDB.out
  have HE1 := hid (And.intro e1 e2)
  have HEB := hid (show ¬ eb = w.heap.size ∧ w.heap.size ≤ eb by omega)
  have HC := hid hcd
  have k0 := (cell_of_block HDB2.out 0).trans rfl
  have k1 := (cell_of_block HDB2.out 1).trans rfl
  have k2 := (cell_of_block HDB2.out 2).trans rfl
  have k3 := (cell_of_block HDB2.out 3).trans rfl
  have k4 := (cell_of_block HDB2.out 4).trans rfl
  have k5 := (cell_of_block HDB2.out 5).trans rfl
  have k6 := (cell_of_block HDB2.out 6).trans rfl
  have u0 := unfrozen_of_block HDB2.out 0
  have u1 := unfrozen_of_block HDB2.out 1
  have u2 := unfrozen_of_block HDB2.out 2
  have u3 := unfrozen_of_block HDB2.out 3
  have u4 := unfrozen_of_block HDB2.out 4
  have u5 := unfrozen_of_block HDB2.out 5
  have u6 := unfrozen_of_block HDB2.out 6
  clear hb hcd h0 e1 e2 e3 hse hsz0
  go_wp2_with fail
  have hps : parseS l = .error (cd, p) := by
   unfold parseS
   rw [HQ.out]
  rw [hps]
  have hk7 := set7_keeps w2 w.heap.size (.slice none 0 0) (.int .i64 0) (.string ⟨#[]⟩) (.string ⟨#[]⟩) (.slice none 0 0) (.slice none 0 0) (.slice none 0 0)
  refine ret_doc (set7_heap HDB2.out (.slice none 0 0) (.int .i64 0) (.string ⟨#[]⟩) (.string ⟨#[]⟩) (.slice none 0 0) (.slice none 0 0) (.slice none 0 0)) rfl rfl ⟨_, rfl, HC.out, .inr ⟨by have := HC.out; omega, eb, rfl, cell_keep HE1.out.1 hk7 HEB.out.1, cell_keep HE1.out.2 hk7 HEB.out.1, HEB.out.2⟩, ?_⟩
  exact HB2.out.trans (hk7.toBelow HB2.out.size (fun q hq => Nat.le_of_eq hq.symm))
 | ok ts j t =>
  rintro e w2 ⟨tv, tps, rfl, htps, hown, hb⟩
  have HB2 := hid (below_then HB0.out hb)
  have HDB2 := hid (block_keep HDB.out (keeps_below hb Non) (fun h => h))
  obtain ⟨ta, tc, hv⟩ := hown.form
  have hpl : tps.length = ts.length := by rw [← htps, List.length_map]
  rw [hpl] at hv
  obtain ⟨m, hm⟩ : ∃ z, ts.length = z := ⟨_, rfl⟩
  rw [hm] at hv
  subst hv
  have HM := hid hm
  have HTPS := hid htps
  have HOWN := hid hown
  clear hb hown hpl hm htps
  go_upto_region 5 with (fail)
  obtain ⟨wg, hwg⟩ : ∃ W, w2.alloc (.cells #[.int .i64 0, .string ⟨#[]⟩, .string ⟨#[]⟩, .slice none 0 0, .slice none 0 0, .slice none 0 0, .int .i64 0] 85) = W := ⟨_, rfl⟩
  rw [hwg]
  have hbg : Below w2.heap.size w2 wg := by rw [← hwg]; exact (Below.refl _ _).alloc (Nat.le_refl _) _
  have hgb : wg.heap[w2.heap.size]? = some (growB (.slice none 0 0) (.slice none 0 0) 0) := by rw [← hwg]; exact heap_alloc_new w2 _
  obtain ⟨y0, hy0⟩ : ∃ W, wg.drew = W := ⟨_, rfl⟩
  have hbg0 : Below w2.heap.size w2 y0 := by rw [← hy0]; exact ⟨hbg.os, hbg.tape, hbg.output, hbg.size, hbg.block⟩
  have hgb0 : y0.heap[w2.heap.size]? = some (growB (.slice none 0 0) (.slice none 0 0) 0) := by rw [← hy0]; exact hgb
  have hc5 : y0.cell? ⟨w2.heap.size, 5, none⟩ = some (.slice none 0 0) := (cell_of_block hgb0 5).trans rfl
  obtain ⟨x1, hx1⟩ : ∃ W, y0.alloc (.cells #[.pointer (some ⟨w2.heap.size, 0, none⟩)] 56) = W := ⟨_, rfl⟩
  have hb01 : Below y0.heap.size y0 x1 := by rw [← hx1]; exact (Below.refl _ _).alloc (Nat.le_refl _) _
  have hp1 : x1.heap[y0.heap.size]? = some (.cells #[.pointer (some ⟨w2.heap.size, 0, none⟩)] 56 (0, 0)) := by rw [← hx1]; exact heap_alloc_new y0 _
  obtain ⟨ov3, x2, hrun, hrow, hgrown, hown⟩ := append_any (w := x1) (v := .slice none 0 0) (n := 0) (xs := []) Tryz.underlying57 infoP rfl (by decide) (World.ownsRow_nil _ _ _ _) (b := ⟨y0.heap.size, 0, none⟩) (m := 1) (c := 1) (news := [.pointer (some ⟨w2.heap.size, 0, none⟩)]) rfl (fun j u hj => by
   rw [Addr.add_mid, Nat.zero_add, cell_of_block hp1 j, ← hj]
   simp) (by intro u hu; rw [List.mem_singleton.1 hu]; rfl) (by decide) (by decide)
  obtain ⟨g3, n3, cap3, rfl⟩ : ∃ g3 n3 cap3, ov3 = .slice (some ⟨g3, 0, none⟩) n3 cap3 := by
   rcases hrow.2 with ⟨_, h0⟩ | ⟨g3, cap3, cur3, h1, _⟩
   ·omega
   ·exact ⟨g3, _, cap3, h1⟩
  have hgl0 : w2.heap.size < y0.heap.size := lt_of_block hgb0
  have hg3 : y0.heap.size ≤ g3 := by
   rcases hown g3 rfl with h1 | h1
   ·cases h1
   ·exact Nat.le_trans hb01.size h1
  have k12 : Keeps Non x1 x2 := (Keeps.refl _ x1).grown hgrown (fun q e => by cases e)
  have hx1c := (hb01.cell (lt_of_cell hc5)).trans hc5
  have hx2c := cell_keep hx1c k12 (fun h => h)
  have hgb2 := block_keep (block_keep hgb0 (keeps_below hb01 Non) (fun h => h)) k12 (fun h => h)
  have hf5 := unfrozen_of_block hgb2 5
  have HBG0 := hid hbg0
  have HB01 := hid hb01
  have HRUN := hid hrun
  have HROW := hid hrow
  have HG3 := hid hg3
  have HK12 := hid k12
  have HX1C := hid hx1c
  have HX2C := hid hx2c
  have HGB2 := hid hgb2
  have HGL0 := hid hgl0
  clear hwg hbg hgb hbg0 hgb0 hb01 hp1 hrun hrow hgrown hown hgl0 hg3 k12 hx1c hx2c hgb2
  refine wp_region_z (S := fun W => W.cell? ⟨w2.heap.size, 5, none⟩ = some (.slice none 0 0)) 12 (by kernel_rfl) (by rw [hy0]; exact hc5) (fun hHeld => ?_)
  rw [hy0] at hHeld ⊢
  refine tkZ 0 13 (hy := by intro W hS; (try dsimp only at hS); (try obtain ⟨hs0, hs1⟩ := hS); go_simp; try with_reducible rfl) ?_
  simp only [LT, Act.put]
  refine tkZ 1 13 (hy := by intro W hS; (try dsimp only at hS); (try obtain ⟨hs0, hs1⟩ := hS); go_simp; try with_reducible rfl) ?_
  simp only [LT, Act.put]
  refine tkZ 2 13 (hy := by intro W hS; (try dsimp only at hS); (try obtain ⟨hs0, hs1⟩ := hS); go_simp; try with_reducible rfl) ?_
  simp only [LT, Act.put]
  refine tkZ 3 13 (hy := by intro W hS; (try dsimp only at hS); (try obtain ⟨hs0, hs1⟩ := hS); go_simp; try with_reducible rfl) ?_
  simp only [LT, Act.put]
  refine tkZ 4 13 (hy := by intro W hS; (try dsimp only at hS); (try obtain ⟨hs0, hs1⟩ := hS); go_simp; try with_reducible rfl) ?_
  simp only [LT, Act.put]
  refine tkZ 5 13 (hy := by intro W hS; (try dsimp only at hS); (try obtain ⟨hs0, hs1⟩ := hS); go_simp; try with_reducible rfl) ?_
  simp only [LT, Act.put]
  refine tkZ 6 13 (hy := by intro W hS; (try dsimp only at hS); (try obtain ⟨hs0, hs1⟩ := hS); go_simp; try with_reducible rfl) ?_
  simp only [LT, Act.put]
  refine tkZ 7 13 (hy := by intro W hS; (try dsimp only at hS); (try obtain ⟨hs0, hs1⟩ := hS); go_simp; try with_reducible rfl) ?_
  simp only [LT, Act.put]
  refine wpAnyZ_one (i := 8) (by kernel_rfl) rfl (fun K hK => ?_)
  go_simp
  refine hK.out _ _ HX1C.out (fun hHeld => ?_)
  clear hK K
  try simp only [LT, Act.put]
  refine wpAnyZ_one (i := 9) (by kernel_rfl) rfl (fun K hK => ?_)
  refine step_append rfl (.tmp 26) (.tmp 30) _ _ rfl _ _ _ rfl rfl HRUN.out ?_
  refine hK.out _ _ HX2C.out (fun hHeld => ?_)
  clear hK K
  try simp only [LT, Act.put]
  refine tkZ 10 13 (hy := by intro W hS; (try dsimp only at hS); (try obtain ⟨hs0, hs1⟩ := hS); go_simp; try with_reducible rfl) ?_
  simp only [LT, Act.put]
  refine tkZ 11 13 (hy := by intro W hS; (try dsimp only at hS); (try obtain ⟨hs0, hs1⟩ := hS); go_simp; try with_reducible rfl) ?_
  simp only [LT, Act.put]
  refine wpAnyZ_last (by kernel_rfl) rfl (by kernel_rfl) (fun K hK => ?_)
  go_simp
  refine hK.out _ _ ?_
  clear hK K
  try simp only [Act.put, List.setIfInBounds_toArray, List.set_cons_zero, List.set_cons_succ]
  obtain ⟨x3, hx3⟩ : ∃ W, x2.setCell ⟨w2.heap.size, 5, none⟩ (.slice (some ⟨g3, 0, none⟩) n3 cap3) = W := ⟨_, rfl⟩
  rw [hx3]
  have kst : Keeps (fun q => w2.heap.size ≤ q) w2 x3 := by
   rw [← hx3]
   exact (((keeps_below (below_then HBG0.out HB01.out) (fun q => w2.heap.size ≤ q)).trans HK12.out (fun q hq => hq.elim))).setCell (p := ⟨w2.heap.size, 5, none⟩) (.inl (Nat.le_refl _)) _
  have hb23 : Below w2.heap.size w2 x3 := kst.toBelow (Nat.le_refl _) (fun q hq => hq)
  have hst : GrW x3 w2.heap.size w2.heap.size (fun k => k < w2.heap.size) [] [] 0 (.slice none 0 0) (.slice (some ⟨g3, 0, none⟩) n3 cap3) [⟨w2.heap.size, 0, none⟩] [none] := by
   refine GrW.start (by rw [← hx3]; exact block_setCell (i := 5) HGB2.out _) ?_ (fun k e => ?_) (Nat.le_refl _)
   ·rw [← hx3]
    exact ownsRow_block HROW.out (fun q e => setCell_heap_far x2 ⟨w2.heap.size, 5, none⟩ _ q (fun h => by
     have h1 := HG3.out
     have h2 := HGL0.out
     have h3 : g3 = q := Option.some.inj e
     have h4 : w2.heap.size = q := h
     omega))
   ·have h1 := HG3.out
    have h2 := HGL0.out
    have h3 : g3 = k := Option.some.inj e
    exact ⟨by omega, by omega⟩
  have HST := hid hst
  have HB23 := hid hb23
  clear hx3 kst hb23 hst hy0 hx1 hc5 hf5
  go_wp2_with fail
  go_loopg [36] m (fun g36 s36 wr => ∃ i : Nat, i + g36 = m ∧ s36 = .int .i64 (i : Int) ∧ LoopP w2 wr ts i)
  case atStart => exact ⟨0, by omega, rfl, ⟨[], [], 0⟩, _, _, _, _, _, rfl, HST.out, fun k hk => Nat.lt_of_lt_of_le hk HB23.out.size, HB23.out, GrOk.start, ⟨fun _ h => (by cases h), fun _ h => (by cases h)⟩, AtG.start⟩
  case round =>
   obtain ⟨i, hig, rfl, hlp⟩ := hrel
   have HLP := hid hlp
   clear hlp
   cases gk with
   | zero =>
    obtain rfl : i = m := by omega
    have hge : ¬ ((i : Int) < (i : Int)) := by omega
    obtain ⟨g, S, v, ov, ps, bs, hgr0, hgw, hSl, hbw, hok, htb, hag⟩ := HLP.out
    have hgr : growS ⟨[], [], 0⟩ ts = .ok g := by
     rw [hgr0, List.drop_eq_nil_of_le (by have := HM.out; omega)]
     rfl
    have HP0 : Hid (parseS l = endS9 l.length g) := hid (by
     unfold parseS
     rw [HQ.out]
     show (match growS ⟨[], [], 0⟩ ts with | .error e => Except.error e | .ok g => endS9 l.length g) = _
     rw [hgr])
    have HGW := hid hgw
    have HBW := hid hbw
    have HOK := hid hok
    have HAG := hid hag.top
    obtain ⟨rows, hri, hni, htop⟩ := hgw.topIn
    have HTOP := hid htop
    have HRI := hid hri
    have HNI := hid hni
    have HIX := hid (index_calls hri)
    obtain ⟨Q, hQ⟩ : ∃ Q, rowAt rows 0 = Q := ⟨_, rfl⟩
    rw [hQ] at HIX
    have HQR := hid hQ
    obtain ⟨z4, _⟩ := hgw.cells
    have HDW := hid (block_keep HDB2.out (keeps_below hbw Non) (fun h => h))
    have HSZ := hid (show w.heap.size < w2.heap.size from lt_of_block HDB2.out)
    clear hgr hgr0 hgw hSl hbw hok htb hri hni hQ hag htop
    go_wp2_with fail
    with_reducible refine HIX.out.mono ?_
    rintro e w3 ⟨rfl, hb3⟩
    have HOU := hid (outside_calls (HGW.out.below hb3))
    have HGW3 := hid (HGW.out.below hb3)
    have hbw3 : Below w2.heap.size w2 w3 := HBW.out.trans (hb3.mono HBW.out.size)
    have HBW3 := hid hbw3
    have HC0 := hid (show (6 : Nat) ≠ 0 by decide)
    have HD3 := hid (block_keep HDB2.out (keeps_below hbw3 Non) (fun h => h))
    replace z4 := (hb3.cell (lt_of_cell z4)).trans z4
    have HB3 := hid hb3
    clear hbw3 hb3
    go_wp2_with fail
    with_reducible refine HOU.out.mono ?_
    rintro e w4 ⟨rfl, hb4⟩
    have HD4 := hid (block_keep HD3.out (keeps_below hb4 Non) (fun h => h))
    have HB4 := hid (HBW3.out.trans (hb4.mono HBW3.out.size))
    have HB34 := hid hb4
    replace z4 := (hb4.cell (lt_of_cell z4)).trans z4
    clear hb4
    by_cases ho : g.opens = []
    ·have hob : decide (g.opens.reverse = []) = true := by rw [ho]; rfl
     rw [hob]
     have HNS := hid (HNI.out (by rw [ho]; rfl))
     have hqe : Q = elemAt g.top 0 := by rw [← HQR.out]; exact rowAt_eq HNS.out.kinds 0
     have HES : Hid (endS9 l.length g = match cutT g.top with | none => .error (6, l.length) | some q => .ok q) := hid (by
      unfold endS9
      rw [if_neg (fun h => h ho)]
      rfl)
     rcases elemAt_cut g.top 0 with ⟨h1, h2⟩ | ⟨j, t, h1, h2, h3⟩
     ·obtain rfl : Q = -1 := hqe.trans h1
      have HPS : Hid (parseS l = .error (6, n)) := hid (by rw [HP0.out, HES.out, h2, HN.out])
      clear ho hob hqe h1 h2
      have hw := wrong_calls 6 n (by decide) w4
      rw [show ((6 : Nat) : Int) = 6 from rfl] at hw
      unfold docZ docV at hw
      have HWR := hid hw
      clear hw
      go_wp2_with fail
      with_reducible refine HWR.out.mono ?_
      rintro e w5 ⟨ev, rfl, her, hb5⟩
      rcases her with ⟨h0, _⟩ | ⟨h0, eb, hev, e1, e2, e3⟩
      ·have := HC0.out
       omega
      subst hev
      have HD5 := hid (block_keep HD4.out (keeps_below hb5 Non) (fun h => h))
      have HE1 := hid (And.intro e1 e2)
      have hsz4 : w.heap.size < w4.heap.size := lt_of_block HD4.out
      have HEB := hid (show ¬ eb = w.heap.size ∧ w.heap.size ≤ eb by omega)
      have HB5 := hid (HB2.out.trans ((HB4.out.mono HB2.out.size).trans (hb5.mono (Nat.le_of_lt hsz4))))
      have k0 := (cell_of_block HD5.out 0).trans rfl
      have k1 := (cell_of_block HD5.out 1).trans rfl
      have k2 := (cell_of_block HD5.out 2).trans rfl
      have k3 := (cell_of_block HD5.out 3).trans rfl
      have k4 := (cell_of_block HD5.out 4).trans rfl
      have k5 := (cell_of_block HD5.out 5).trans rfl
      have k6 := (cell_of_block HD5.out 6).trans rfl
      have u0 := unfrozen_of_block HD5.out 0
      have u1 := unfrozen_of_block HD5.out 1
      have u2 := unfrozen_of_block HD5.out 2
      have u3 := unfrozen_of_block HD5.out 3
      have u4 := unfrozen_of_block HD5.out 4
      have u5 := unfrozen_of_block HD5.out 5
      have u6 := unfrozen_of_block HD5.out 6
      clear hb5 h0 e1 e2 e3 hsz4
      go_wp2_with fail
      rw [HPS.out]
      have hk7 := set7_keeps w5 w.heap.size (.slice none 0 0) (.int .i64 0) (.string ⟨#[]⟩) (.string ⟨#[]⟩) (.slice none 0 0) (.slice none 0 0) (.slice none 0 0)
      refine ret_doc (set7_heap HD5.out (.slice none 0 0) (.int .i64 0) (.string ⟨#[]⟩) (.string ⟨#[]⟩) (.slice none 0 0) (.slice none 0 0) (.slice none 0 0)) rfl rfl ⟨_, rfl, HC0.out, .inr ⟨by have := HC0.out; omega, eb, rfl, cell_keep HE1.out.1 hk7 HEB.out.1, cell_keep HE1.out.2 hk7 HEB.out.1, HEB.out.2⟩, ?_⟩
      exact HB5.out.trans (hk7.toBelow HB5.out.size (fun q hq => Nat.le_of_eq hq.symm))
     ·have hj : Q = (j : Int) := by rw [hqe, h1, Nat.zero_add]
      subst hj
      have HPS : Hid (parseS l = .ok (g.top.take j, t, g.top.drop (j + 1))) := hid (by rw [HP0.out, HES.out, h3])
      clear ho hob hqe h1 h3
      have hj0 : ¬ ((j : Int) < 0) := by omega
      obtain ⟨x, hx⟩ : ∃ x, rows[j]? = some x := ⟨_, List.getElem?_eq_getElem (by rw [HNS.out.1]; exact (List.getElem?_eq_some_iff.1 h2).1)⟩
      have hjr : j < rows.length := (List.getElem?_eq_some_iff.1 hx).1
      have HND := hid (HNS.out.2 j x t hx h2)
      obtain ⟨g5, c5, hv5, hrc5, hcm5, hgn5⟩ := HTOP.out (fun h => by rw [h] at hx; simp at hx)
      subst hv5
      have HROW : Hid (∀ (i : Nat) (y : Nr), rows[i]? = some y → NrIn wr g5 (i * 5) y) := hid (fun i y hy => by
       obtain ⟨_, _, e1, _, _, _, h5⟩ := HRI.out
       injection e1 with e1 _ _
       subst e1
       rcases h5 with h5 | ⟨b, o, h6, _, h7⟩
       ·rw [h5] at hy; simp at hy
       ·injection h6 with h6
        injection h6 with h6 h8
        subst h6
        subst h8
        have := h7 i y hy
        rw [Nat.zero_add] at this
        exact this)
      have hb4 : Below wr.heap.size wr w4 := HB3.out.trans (HB34.out.mono HB3.out.size)
      obtain ⟨x0, hx0⟩ : ∃ W, w4.drew = W := ⟨_, rfl⟩
      have hbx : Below wr.heap.size wr x0 := by rw [← hx0]; exact hb4.trans ⟨rfl, rfl, rfl, Nat.le_refl _, fun _ _ => rfl⟩
      have hdx : x0.heap[w.heap.size]? = some (.cells #[.slice none 0 0, .int .i64 0, .string ⟨#[]⟩, .string ⟨#[]⟩, .slice none 0 0, .slice none 0 0, .slice none 0 0] 27 (0, 0)) := by rw [← hx0]; exact HD4.out
      have hbw2 : Below w2.heap.size w2 x0 := by rw [← hx0]; exact HB4.out.trans ⟨rfl, rfl, rfl, Nat.le_refl _, fun _ _ => rfl⟩
      have hzx : x0.cell? ⟨w2.heap.size, 4, none⟩ = some (.slice (some ⟨g5, 0, none⟩) rows.length c5) := by rw [← hx0]; exact z4
      obtain ⟨m5, hm5⟩ : ∃ z, rows.length = z := ⟨_, rfl⟩
      rw [hm5] at hjr hrc5 hzx
      have hmx5 : m5 ≤ 4096 := by
       have h5 := HNS.out.1
       have h6 := cntL_len g.top
       have h7 := HOK.out.cnt
       have h8 := HOK.out.most
       omega
      obtain ⟨y0, y1, y2, y3, y4⟩ := (HROW.out j x hx).keep (keeps_below hbx Non) (fun h => h)
      have hon := HNS.out.ones
      obtain ⟨q1, q2, q3, hat, rows6, hri6, q4⟩ := HND.out.kids
      clear q1 q2 q3 q4
      have HX := hid hx
      have HH2 := hid h2
      have HM5R := hid hm5
      have HBX := hid hbx
      have HDX := hid hdx
      have HBW2 := hid hbw2
      have HON := hid hon
      have HRW : Hid (∀ W, Below wr.heap.size wr W → RowIn W (fun _ => True) (.slice (some ⟨g5, 0, none⟩) m5 c5) rows) := hid (fun W hb => by
       have h5 := HRI.out.keep (S' := fun _ => True) (keeps_below hb Non) (fun _ _ h => h) (fun _ h => h)
       rw [hm5] at h5
       exact h5)
      have HCA : Hid (∀ W, Below wr.heap.size wr W → Calls Tryz.prog 46 #[.slice (some ⟨g5, 0, none⟩) j c5] W (fun e w' => ∃ v', e = .returned v' ∧ (∃ a n c, v' = .slice a n c) ∧ RowIn w' (fun k => W.heap.size ≤ k) v' (rows.take j) ∧ Below W.heap.size W w')) := hid (fun W hb => clone_calls ((HRW.out W hb).take j (by omega)) (by rw [List.length_take]; omega) (fun y hy => HON.out y (List.mem_of_mem_take hy)))
      have HCB : Hid (∀ W, Below wr.heap.size wr W → Calls Tryz.prog 46 #[.slice (if c5 = j + 1 then some ⟨g5, 0, none⟩ else some ⟨g5, (j + 1) * 5, none⟩) (m5 - (j + 1)) (c5 - (j + 1))] W (fun e w' => ∃ v', e = .returned v' ∧ (∃ a n c, v' = .slice a n c) ∧ RowIn w' (fun k => W.heap.size ≤ k) v' (rows.drop (j + 1)) ∧ Below W.heap.size W w')) := hid (fun W hb => by
       have h5 := (HRW.out W hb).drop (j + 1) (by omega)
       rw [Nat.zero_add] at h5
       have h6 : RowIn W (fun _ => True) (.slice (if c5 = j + 1 then some ⟨g5, 0, none⟩ else some ⟨g5, (j + 1) * 5, none⟩) (m5 - (j + 1)) (c5 - (j + 1))) (rows.drop (j + 1)) := by
        by_cases hcc : c5 = j + 1
        ·rw [if_pos hcc]
         have h7 : rows.drop (j + 1) = [] := List.drop_eq_nil_of_le (by rw [hm5]; omega)
         rw [h7]
         exact ⟨_, c5 - (j + 1), by rw [show m5 - (j + 1) = 0 by omega]; rfl, Nat.zero_le _, by omega, fun h => (by cases h), .inl rfl⟩
        ·rw [if_neg hcc]
         exact h5
       exact clone_calls h6 (by rw [List.length_drop]; omega) (fun y hy => HON.out y (List.mem_of_mem_drop hy)))
      obtain ⟨xa1, xa2, xa3, hxav⟩ : ∃ a n c, x.av = .slice a n c := by
       obtain ⟨a, c, h5, _⟩ := hat
       exact ⟨a, _, c, h5⟩
      obtain ⟨xk1, xk2, xk3, hxkv⟩ : ∃ a n c, x.kv = .slice a n c := by
       obtain ⟨a, c, h5, _⟩ := hri6
       exact ⟨a, _, c, h5⟩
      obtain ⟨xk, xn, xt, xav, xkv⟩ := x
      dsimp only at y0 y1 y2 y3 y4 hxav hxkv
      subst hxav
      subst hxkv
      obtain ⟨sn, hsn⟩ : ∃ z, strB xn = z := ⟨_, rfl⟩
      obtain ⟨st, hst⟩ : ∃ z, strB xt = z := ⟨_, rfl⟩
      have HSN := hid hsn
      have HST := hid hst
      rw [hsn] at y1
      rw [hst] at y2
      have hjm : (j : Int) < (m5 : Int) := by omega
      have hjz : (0 : Int) ≤ (j : Int) := by omega
      have hjc : (j : Int) ≤ (c5 : Int) := by omega
      have hadd : IntKind.i64.wrap ((j : Int) + 1) = (j : Int) + 1 := IntWalk.i64_in _ (by omega)
      have hj1 : (0 : Int) ≤ (j : Int) + 1 := by omega
      have hj2 : (j : Int) + 1 ≤ (m5 : Int) := by omega
      have hj3 : (m5 : Int) ≤ (c5 : Int) := by omega
      clear hon hat hri6 hx h2 hm5 hbx hdx hbw2 hb4 hsn hst z4
      go_upto_region 16 with (fail)
      refine wp_region_held_drew (S := fun W => W.cell? ⟨w2.heap.size, 4, none⟩ = some (.slice (some ⟨g5, 0, none⟩) m5 c5) ∧ W.cell? ⟨g5, j * 5, none⟩ = some (.int .i64 xk) ∧ W.cell? ⟨g5, j * 5 + 1, none⟩ = some (.string sn) ∧ W.cell? ⟨g5, j * 5 + 2, none⟩ = some (.string st) ∧ W.cell? ⟨g5, j * 5 + 3, none⟩ = some (.slice xa1 xa2 xa3) ∧ W.cell? ⟨g5, j * 5 + 4, none⟩ = some (.slice xk1 xk2 xk3)) (by kernel_rfl) (by rw [hx0]; exact ⟨hzx, y0, y1, y2, y3, y4⟩) (fun hHeld => ?_)
      rw [hx0] at hHeld ⊢
      clear hx0
      refine wpAnyH_take (i := 0) (v := ?_) rfl (by kernel_rfl) (by kernel_rfl) (by kernel_rfl) (fun _ _ _ h => h) (Or.inl ⟨by rfl, ?_⟩) (by assumption) ?_
      rotate_left
      ·intro W hS
       try dsimp only at hS
       obtain ⟨hs0, hs1, hs2, hs3, hs4, hs5⟩ := hS
       go_simp
       try with_reducible rfl
      simp only [LT, Act.put]
      refine wpAnyH_take (i := 1) (v := ?_) rfl (by kernel_rfl) (by kernel_rfl) (by kernel_rfl) (fun _ _ _ h => h) (Or.inl ⟨by rfl, ?_⟩) (by assumption) ?_
      rotate_left
      ·intro W hS
       try dsimp only at hS
       obtain ⟨hs0, hs1, hs2, hs3, hs4, hs5⟩ := hS
       go_simp
       try with_reducible rfl
      simp only [LT, Act.put]
      refine wpAnyH_take (i := 2) (v := ?_) rfl (by kernel_rfl) (by kernel_rfl) (by kernel_rfl) (fun _ _ _ h => h) (Or.inl ⟨by rfl, ?_⟩) (by assumption) ?_
      rotate_left
      ·intro W hS
       try dsimp only at hS
       obtain ⟨hs0, hs1, hs2, hs3, hs4, hs5⟩ := hS
       go_simp
       try with_reducible rfl
      simp only [LT, Act.put]
      refine wpAnyH_take (i := 3) (v := ?_) rfl (by kernel_rfl) (by kernel_rfl) (by kernel_rfl) (fun _ _ _ h => h) (Or.inl ⟨by rfl, ?_⟩) (by assumption) ?_
      rotate_left
      ·intro W hS
       try dsimp only at hS
       obtain ⟨hs0, hs1, hs2, hs3, hs4, hs5⟩ := hS
       go_simp
       try with_reducible rfl
      simp only [LT, Act.put]
      refine wpAnyH_take (i := 4) (v := ?_) rfl (by kernel_rfl) (by kernel_rfl) (by kernel_rfl) (fun _ _ _ h => h) (Or.inl ⟨by rfl, ?_⟩) (by assumption) ?_
      rotate_left
      ·intro W hS
       try dsimp only at hS
       obtain ⟨hs0, hs1, hs2, hs3, hs4, hs5⟩ := hS
       go_simp
       try with_reducible rfl
      simp only [LT, Act.put]
      refine wpAnyH_take (i := 5) (v := ?_) rfl (by kernel_rfl) (by kernel_rfl) (by kernel_rfl) (fun _ _ _ h => h) (Or.inl ⟨by rfl, ?_⟩) (by assumption) ?_
      rotate_left
      ·intro W hS
       try dsimp only at hS
       obtain ⟨hs0, hs1, hs2, hs3, hs4, hs5⟩ := hS
       go_simp
       try with_reducible rfl
      simp only [LT, Act.put]
      refine wpAnyH_take (i := 6) (v := ?_) rfl (by kernel_rfl) (by kernel_rfl) (by kernel_rfl) (fun _ _ _ h => h) (Or.inl ⟨by rfl, ?_⟩) (by assumption) ?_
      rotate_left
      ·intro W hS
       try dsimp only at hS
       obtain ⟨hs0, hs1, hs2, hs3, hs4, hs5⟩ := hS
       go_simp
       try with_reducible rfl
      simp only [LT, Act.put]
      refine wpAnyH_take (i := 8) (v := ?_) rfl (by kernel_rfl) (by kernel_rfl) (by kernel_rfl) (fun _ _ _ h => h) (Or.inl ⟨by rfl, ?_⟩) (by assumption) ?_
      rotate_left
      ·intro W hS
       try dsimp only at hS
       obtain ⟨hs0, hs1, hs2, hs3, hs4, hs5⟩ := hS
       go_simp
       try with_reducible rfl
      simp only [LT, Act.put]
      refine wpAnyH_take (i := 9) (v := ?_) rfl (by kernel_rfl) (by kernel_rfl) (by kernel_rfl) (fun _ _ _ h => h) (Or.inl ⟨by rfl, ?_⟩) (by assumption) ?_
      rotate_left
      ·intro W hS
       try dsimp only at hS
       obtain ⟨hs0, hs1, hs2, hs3, hs4, hs5⟩ := hS
       go_simp
       try with_reducible rfl
      simp only [LT, Act.put]
      refine wpAnyH_take (i := 10) (v := ?_) rfl (by kernel_rfl) (by kernel_rfl) (by kernel_rfl) (fun _ _ _ h => h) (Or.inl ⟨by rfl, ?_⟩) (by assumption) ?_
      rotate_left
      ·intro W hS
       try dsimp only at hS
       obtain ⟨hs0, hs1, hs2, hs3, hs4, hs5⟩ := hS
       go_simp
       try with_reducible rfl
      simp only [LT, Act.put]
      refine wpAnyH_take (i := 11) (v := ?_) rfl (by kernel_rfl) (by kernel_rfl) (by kernel_rfl) (fun _ _ _ h => h) (Or.inl ⟨by rfl, ?_⟩) (by assumption) ?_
      rotate_left
      ·intro W hS
       try dsimp only at hS
       obtain ⟨hs0, hs1, hs2, hs3, hs4, hs5⟩ := hS
       go_simp
       try with_reducible rfl
      simp only [LT, Act.put]
      refine wpAnyH_take (i := 12) (v := ?_) rfl (by kernel_rfl) (by kernel_rfl) (by kernel_rfl) (fun _ _ _ h => h) (Or.inl ⟨by rfl, ?_⟩) (by assumption) ?_
      rotate_left
      ·intro W hS
       try dsimp only at hS
       obtain ⟨hs0, hs1, hs2, hs3, hs4, hs5⟩ := hS
       go_simp
       try with_reducible rfl
      simp only [LT, Act.put]
      refine wpAnyH_take (i := 13) (v := ?_) rfl (by kernel_rfl) (by kernel_rfl) (by kernel_rfl) (fun _ _ _ h => h) (Or.inl ⟨by rfl, ?_⟩) (by assumption) ?_
      rotate_left
      ·intro W hS
       try dsimp only at hS
       obtain ⟨hs0, hs1, hs2, hs3, hs4, hs5⟩ := hS
       go_simp
       try with_reducible rfl
      simp only [LT, Act.put]
      refine wpAnyH_take (i := 14) (v := ?_) rfl (by kernel_rfl) (by kernel_rfl) (by kernel_rfl) (fun _ _ _ h => h) (Or.inl ⟨by rfl, ?_⟩) (by assumption) ?_
      rotate_left
      ·intro W hS
       try dsimp only at hS
       obtain ⟨hs0, hs1, hs2, hs3, hs4, hs5⟩ := hS
       go_simp
       try with_reducible rfl
      simp only [LT, Act.put]
      refine wpAnyH_take (i := 15) (v := ?_) rfl (by kernel_rfl) (by kernel_rfl) (by kernel_rfl) (fun _ _ _ h => h) (Or.inl ⟨by rfl, ?_⟩) (by assumption) ?_
      rotate_left
      ·intro W hS
       try dsimp only at hS
       obtain ⟨hs0, hs1, hs2, hs3, hs4, hs5⟩ := hS
       go_simp
       try with_reducible rfl
      simp only [LT, Act.put]
      refine wpAnyH_take (i := 16) (v := ?_) rfl (by kernel_rfl) (by kernel_rfl) (by kernel_rfl) (fun _ _ _ h => h) (Or.inl ⟨by rfl, ?_⟩) (by assumption) ?_
      rotate_left
      ·intro W hS
       try dsimp only at hS
       obtain ⟨hs0, hs1, hs2, hs3, hs4, hs5⟩ := hS
       go_simp
       try with_reducible rfl
      simp only [LT, Act.put]
      refine wpAnyH_take (i := 17) (v := ?_) rfl (by kernel_rfl) (by kernel_rfl) (by kernel_rfl) (fun _ _ _ h => h) (Or.inl ⟨by rfl, ?_⟩) (by assumption) ?_
      rotate_left
      ·intro W hS
       try dsimp only at hS
       obtain ⟨hs0, hs1, hs2, hs3, hs4, hs5⟩ := hS
       go_simp
       try with_reducible rfl
      simp only [LT, Act.put]
      refine wpAnyH_take (i := 18) (v := ?_) rfl (by kernel_rfl) (by kernel_rfl) (by kernel_rfl) (fun _ _ _ h => h) (Or.inl ⟨by rfl, ?_⟩) (by assumption) ?_
      rotate_left
      ·intro W hS
       try dsimp only at hS
       obtain ⟨hs0, hs1, hs2, hs3, hs4, hs5⟩ := hS
       go_simp
       try with_reducible rfl
      simp only [LT, Act.put]
      refine wpAnyH_take (i := 19) (v := ?_) rfl (by kernel_rfl) (by kernel_rfl) (by kernel_rfl) (fun _ _ _ h => h) (Or.inl ⟨by rfl, ?_⟩) (by assumption) ?_
      rotate_left
      ·intro W hS
       try dsimp only at hS
       obtain ⟨hs0, hs1, hs2, hs3, hs4, hs5⟩ := hS
       go_simp
       try with_reducible rfl
      simp only [LT, Act.put]
      refine wpAnyH_take (i := 20) (v := ?_) rfl (by kernel_rfl) (by kernel_rfl) (by kernel_rfl) (fun _ _ _ h => h) (Or.inl ⟨by rfl, ?_⟩) (by assumption) ?_
      rotate_left
      ·intro W hS
       try dsimp only at hS
       obtain ⟨hs0, hs1, hs2, hs3, hs4, hs5⟩ := hS
       go_simp
       try with_reducible rfl
      simp only [LT, Act.put]
      refine wpAnyH_take (i := 21) (v := ?_) rfl (by kernel_rfl) (by kernel_rfl) (by kernel_rfl) (fun _ _ _ h => h) (Or.inl ⟨by rfl, ?_⟩) (by assumption) ?_
      rotate_left
      ·intro W hS
       try dsimp only at hS
       obtain ⟨hs0, hs1, hs2, hs3, hs4, hs5⟩ := hS
       go_simp
       try with_reducible rfl
      simp only [LT, Act.put]
      refine wpAnyH_take (i := 22) (v := ?_) rfl (by kernel_rfl) (by kernel_rfl) (by kernel_rfl) (fun _ _ _ h => h) (Or.inl ⟨by rfl, ?_⟩) (by assumption) ?_
      rotate_left
      ·intro W hS
       try dsimp only at hS
       obtain ⟨hs0, hs1, hs2, hs3, hs4, hs5⟩ := hS
       go_simp
       try with_reducible rfl
      simp only [LT, Act.put]
      refine wpAnyH_take (i := 23) (v := ?_) rfl (by kernel_rfl) (by kernel_rfl) (by kernel_rfl) (fun _ _ _ h => h) (Or.inl ⟨by rfl, ?_⟩) (by assumption) ?_
      rotate_left
      ·intro W hS
       try dsimp only at hS
       obtain ⟨hs0, hs1, hs2, hs3, hs4, hs5⟩ := hS
       go_simp
       try with_reducible rfl
      simp only [LT, Act.put]
      refine wpAnyH_ready (rs := [7]) (by kernel_rfl) (by simp) ?_
      refine AllReadyH.cons rfl (fun K hK => ?_) AllReadyH.nil
      go_simp
      with_reducible refine (HCA.out x0 HBX.out).mono ?_
      rintro e x1 ⟨bv, rfl, ⟨z1, z2, z3, rfl⟩, hrb, hb1⟩
      have HRB := hid hrb
      have hbx1 : Below wr.heap.size wr x1 := HBX.out.trans (hb1.mono HBX.out.size)
      have HBX1 := hid hbx1
      have HB01 := hid hb1
      obtain ⟨hs0, hs1, hs2, hs3, hs4, hs5⟩ := hHeld
      refine hK.out _ _ ⟨(hb1.cell (lt_of_cell hs0)).trans hs0, (hb1.cell (lt_of_cell hs1)).trans hs1, (hb1.cell (lt_of_cell hs2)).trans hs2, (hb1.cell (lt_of_cell hs3)).trans hs3, (hb1.cell (lt_of_cell hs4)).trans hs4, (hb1.cell (lt_of_cell hs5)).trans hs5⟩ (fun hHeld => ?_)
      clear hK K hrb hb1 hbx1 hs0 hs1 hs2 hs3 hs4 hs5
      try simp only [LT, Act.put]
      refine wpAnyH_ready (rs := [24]) (by kernel_rfl) (by simp) ?_
      refine AllReadyH.cons rfl (fun K hK => ?_) AllReadyH.nil
      go_simp
      with_reducible refine (HCB.out x1 HBX1.out).mono ?_
      rintro e x2 ⟨av, rfl, ⟨z4, z5, z6, rfl⟩, hra, hb2⟩
      have HRA := hid hra
      have hbx2 : Below wr.heap.size wr x2 := HBX1.out.trans (hb2.mono HBX1.out.size)
      have hb02 : Below x0.heap.size x0 x2 := below_then HB01.out hb2
      have HB12 := hid hb2
      have HB02 := hid hb02
      obtain ⟨hs0, hs1, hs2, hs3, hs4, hs5⟩ := hHeld
      refine hK.out _ _ ⟨(hb2.cell (lt_of_cell hs0)).trans hs0, (hb2.cell (lt_of_cell hs1)).trans hs1, (hb2.cell (lt_of_cell hs2)).trans hs2, (hb2.cell (lt_of_cell hs3)).trans hs3, (hb2.cell (lt_of_cell hs4)).trans hs4, (hb2.cell (lt_of_cell hs5)).trans hs5⟩ (fun hHeld => ?_)
      have HD7 := hid (block_keep HDX.out (keeps_below hb02 Non) (fun h => h))
      clear hK K hra hb2 hbx2 hb02 hs0 hs1 hs2 hs3 hs4 hs5
      try simp only [LT, Act.put]
      refine wpAnyH_take (i := 25) (v := ?_) rfl (by kernel_rfl) (by kernel_rfl) (by kernel_rfl) (fun _ _ _ h => h) (Or.inl ⟨by rfl, ?_⟩) (by assumption) ?_
      rotate_left
      ·intro W hS
       try dsimp only at hS
       obtain ⟨hs0, hs1, hs2, hs3, hs4, hs5⟩ := hS
       go_simp
       try with_reducible rfl
      simp only [LT, Act.put]
      have hblk := HD7.out
      have k0 := (cell_of_block HD7.out 0).trans rfl
      have k1 := (cell_of_block HD7.out 1).trans rfl
      have k2 := (cell_of_block HD7.out 2).trans rfl
      have k3 := (cell_of_block HD7.out 3).trans rfl
      have k4 := (cell_of_block HD7.out 4).trans rfl
      have k5 := (cell_of_block HD7.out 5).trans rfl
      have k6 := (cell_of_block HD7.out 6).trans rfl
      have u0 := unfrozen_of_block HD7.out 0
      have u1 := unfrozen_of_block HD7.out 1
      have u2 := unfrozen_of_block HD7.out 2
      have u3 := unfrozen_of_block HD7.out 3
      have u4 := unfrozen_of_block HD7.out 4
      have u5 := unfrozen_of_block HD7.out 5
      have u6 := unfrozen_of_block HD7.out 6
      have hk7 := set7_keeps x2 w.heap.size (.slice z1 z2 z3) (.int .i64 xk) (.string sn) (.string st) (.slice xa1 xa2 xa3) (.slice xk1 xk2 xk3) (.slice z4 z5 z6)
      have HK7 := hid hk7
      have HH7 := hid (show _ ∧ _ ∧ _ ∧ _ ∧ _ ∧ _ from ⟨cell_keep hHeld.1 hk7 (fun e => by have := HSZ.out; omega), cell_keep hHeld.2.1 hk7 (fun e => by have := HSZ.out; omega), cell_keep hHeld.2.2.1 hk7 (fun e => by have := HSZ.out; omega), cell_keep hHeld.2.2.2.1 hk7 (fun e => by have := HSZ.out; omega), cell_keep hHeld.2.2.2.2.1 hk7 (fun e => by have := HSZ.out; omega), cell_keep hHeld.2.2.2.2.2 hk7 (fun e => by have := HSZ.out; omega)⟩)
      clear hk7 hHeld hblk
      refine wpAnyH_ready (rs := [26]) (by kernel_rfl) (by simp) ?_
      refine AllReadyH.cons rfl (fun K hK => ?_) AllReadyH.nil
      go_simp
      refine hK.out _ _ HH7.out (fun hHeld => ?_)
      clear hK K k0 k1 k2 k3 k4 k5 k6 u0 u1 u2 u3 u4 u5 u6
      try simp only [LT, Act.put]
      refine wpAnyH_take (i := 27) (v := ?_) rfl (by kernel_rfl) (by kernel_rfl) (by kernel_rfl) (fun _ _ _ h => h) (Or.inl ⟨by rfl, ?_⟩) (by assumption) ?_
      rotate_left
      ·intro W hS
       try dsimp only at hS
       obtain ⟨hs0, hs1, hs2, hs3, hs4, hs5⟩ := hS
       go_simp
       try with_reducible rfl
      simp only [LT, Act.put]
      refine wpAnyH_done (by kernel_rfl) ?_ _
      go_wp2_with fail
      all_goals
       rw [HPS.out]
       have hbl := Blank.nodes ⟨_, HDX.out⟩ (NodeIn.keep (S' := Any) HND.out (keeps_below HBX.out Non) (fun _ _ h => h) (fun _ _ => trivial)) (sndL_mem HOK.out.top.snd t (List.mem_of_getElem? HH2.out)) (atL_mem HAG.out t (List.mem_of_getElem? HH2.out))
       have hk2 : Keeps (fun q => q = w.heap.size) x0 (set7 x2 w.heap.size (.slice z1 z2 z3) (.int .i64 xk) (.string sn) (.string st) (.slice xa1 xa2 xa3) (.slice xk1 xk2 xk3) (.slice z4 z5 z6)) := (keeps_below HB02.out _).trans HK7.out (fun q hq => .inl hq)
       have hlt : w.heap.size < x0.heap.size := lt_of_block HDX.out
       have hns : NodesIn x0 (fun k => k ≠ w.heap.size) rows g.top := ⟨HNS.out.1, fun i y u hy hu => Blank.nodes ⟨_, HDX.out⟩ (NodeIn.keep (S' := Any) (HNS.out.2 i y u hy hu) (keeps_below HBX.out Non) (fun _ _ h => h) (fun _ _ => trivial)) (sndL_mem HOK.out.top.snd u (List.mem_of_getElem? hu)) (atL_mem HAG.out u (List.mem_of_getElem? hu))⟩
       refine ret_doc (set7_heap HD7.out (.slice z1 z2 z3) (.int .i64 xk) (.string sn) (.string st) (.slice xa1 xa2 xa3) (.slice xk1 xk2 xk3) (.slice z4 z5 z6)) rfl rfl ⟨_, rfl, ⟨_, _, ⟨xk, xn, xt, .slice xa1 xa2 xa3, .slice xk1 xk2 xk3⟩, rows.take j, rows.drop (j + 1), by rw [HSN.out, HST.out], hbl.keep hk2 (fun _ h => h) (fun _ _ => trivial), ?_, ?_, ?_, ?_⟩, ?_⟩
       ·exact HRB.out.keep ((keeps_below HB12.out _).trans HK7.out (fun q hq => .inl hq)) (fun k hk e => by have h5 : x0.heap.size ≤ k := hk; have h6 : k = w.heap.size := e; omega) (fun _ _ => trivial)
       ·exact (hns.take j).keep hk2 (fun _ h => h) (fun _ _ => trivial)
       ·exact HRA.out.keep HK7.out (fun k hk e => by have h5 : x1.heap.size ≤ k := hk; have h6 : k = w.heap.size := e; have h7 := HB01.out.size; omega) (fun _ _ => trivial)
       ·exact (hns.drop (j + 1)).keep hk2 (fun _ h => h) (fun _ _ => trivial)
       ·exact ((HB2.out.trans (HBW2.out.mono HB2.out.size)).trans (HB02.out.mono (Nat.le_of_lt hlt))).trans (HK7.out.toBelow (Nat.le_trans (Nat.le_of_lt hlt) HB02.out.size) (fun q hq => Nat.le_of_eq hq.symm))
    ·have hob : decide (g.opens.reverse = []) = false := by
      rw [decide_eq_false_iff_not]
      intro h
      exact ho (List.reverse_eq_nil_iff.1 h)
     rw [hob]
     have HPS : Hid (parseS l = .error (6, n)) := hid (by
      rw [HP0.out]
      unfold endS9
      rw [if_pos ho, HN.out])
     clear ho hob
     have hw := wrong_calls 6 n (by decide) w4
     rw [show ((6 : Nat) : Int) = 6 from rfl] at hw
     unfold docZ docV at hw
     have HWR := hid hw
     clear hw
     go_wp2_with fail
     with_reducible refine HWR.out.mono ?_
     rintro e w5 ⟨ev, rfl, her, hb5⟩
     rcases her with ⟨h0, _⟩ | ⟨h0, eb, hev, e1, e2, e3⟩
     ·have := HC0.out
      omega
     subst hev
     have HD5 := hid (block_keep HD4.out (keeps_below hb5 Non) (fun h => h))
     have HE1 := hid (And.intro e1 e2)
     have hsz4 : w.heap.size < w4.heap.size := lt_of_block HD4.out
     have HEB := hid (show ¬ eb = w.heap.size ∧ w.heap.size ≤ eb by omega)
     have HB5 := hid (HB2.out.trans ((HB4.out.mono HB2.out.size).trans (hb5.mono (Nat.le_of_lt hsz4))))
     have k0 := (cell_of_block HD5.out 0).trans rfl
     have k1 := (cell_of_block HD5.out 1).trans rfl
     have k2 := (cell_of_block HD5.out 2).trans rfl
     have k3 := (cell_of_block HD5.out 3).trans rfl
     have k4 := (cell_of_block HD5.out 4).trans rfl
     have k5 := (cell_of_block HD5.out 5).trans rfl
     have k6 := (cell_of_block HD5.out 6).trans rfl
     have u0 := unfrozen_of_block HD5.out 0
     have u1 := unfrozen_of_block HD5.out 1
     have u2 := unfrozen_of_block HD5.out 2
     have u3 := unfrozen_of_block HD5.out 3
     have u4 := unfrozen_of_block HD5.out 4
     have u5 := unfrozen_of_block HD5.out 5
     have u6 := unfrozen_of_block HD5.out 6
     clear hb5 h0 e1 e2 e3 hsz4
     go_wp2_with fail
     rw [HPS.out]
     have hk7 := set7_keeps w5 w.heap.size (.slice none 0 0) (.int .i64 0) (.string ⟨#[]⟩) (.string ⟨#[]⟩) (.slice none 0 0) (.slice none 0 0) (.slice none 0 0)
     refine ret_doc (set7_heap HD5.out (.slice none 0 0) (.int .i64 0) (.string ⟨#[]⟩) (.string ⟨#[]⟩) (.slice none 0 0) (.slice none 0 0) (.slice none 0 0)) rfl rfl ⟨_, rfl, HC0.out, .inr ⟨by have := HC0.out; omega, eb, rfl, cell_keep HE1.out.1 hk7 HEB.out.1, cell_keep HE1.out.2 hk7 HEB.out.1, HEB.out.2⟩, ?_⟩
     exact HB5.out.trans (hk7.toBelow HB5.out.size (fun q hq => Nat.le_of_eq hq.symm))
   | succ g36 =>
    have hlt : (i : Int) < (m : Int) := by omega
    have hi0 : (0 : Int) ≤ (i : Int) := by omega
    have hm5 : m ≤ 65536 := by
     have h1 := allS_count HQ.out
     have h2 := (allS_few HQ.out).1
     have h3 := HM.out
     omega
    have hadd : IntKind.i64.wrap ((i : Int) + 1) = ((i + 1 : Nat) : Int) := IntWalk.i64_in _ (by omega)
    obtain ⟨x, hx⟩ : ∃ x, tps[i]? = some x := ⟨_, List.getElem?_eq_getElem (by have h1 := HM.out; rw [← HTPS.out, List.length_map] at h1; omega)⟩
    have hti : ts[i]? = some x.1 := by rw [← HTPS.out, List.getElem?_map, hx]; rfl
    obtain ⟨g, S, v, ov, ps, bs, hgr, hgw, hSl, hbw, hok, htb, hag⟩ := HLP.out
    obtain ⟨tb, htb2, htk⟩ : ∃ tb, ta = some ⟨tb, 0, none⟩ ∧ TkIn w2 tb i x := by
     rcases HOWN.out.tokens with ⟨_, h0⟩ | ⟨b, cc, h1, _, _, _, _, h2⟩
     ·rw [h0] at hx; cases hx
     ·exact ⟨b, by injection h1, h2 i x hx⟩
    subst htb2
    obtain ⟨y0, y1, y2, y3, y4⟩ := htk.keep hbw
    obtain ⟨aa, ac, hav, _, _, _⟩ := (HOWN.out.atts x (List.mem_of_getElem? hx)).form
    rw [hav] at y4
    have HATT := hid ((HOWN.out.atts x (List.mem_of_getElem? hx)).att)
    have HXL := hid (HOWN.out.atts x (List.mem_of_getElem? hx)).lt
    have HM5 := hid hm5
    have HTI := hid hti
    have HGW := hid hgw
    have HSL := hid hSl
    have HBW := hid hbw
    have HGE := hid hgr
    have HOK := hid hok
    have HTB := hid htb
    have HAV := hid hav
    obtain ⟨tk, xv⟩ := x
    obtain ⟨kd, at_, nme, tx, ats⟩ := tk
    dsimp only at y0 y1 y2 y3 y4
    obtain ⟨sn, hsn⟩ : ∃ z, strB nme = z := ⟨_, rfl⟩
    obtain ⟨st, hst⟩ : ∃ z, strB tx = z := ⟨_, rfl⟩
    rw [hsn] at y2
    rw [hst] at y3
    clear hx hti htk hav hgw hSl hbw hgr hok htb hm5
    obtain ⟨wt, hwt⟩ : ∃ W, wr.alloc (.cells #[.int .i64 (kd : Int), .int .i64 (at_ : Int), .string sn, .string st, .slice aa ats.length ac] 87) = W := ⟨_, rfl⟩
    have hbt : Below wr.heap.size wr wt := by rw [← hwt]; exact (Below.refl _ _).alloc (Nat.le_refl _) _
    have htb : wt.heap[wr.heap.size]? = some (.cells #[.int .i64 (kd : Int), .int .i64 (at_ : Int), .string sn, .string st, .slice aa ats.length ac] 87 (0, 0)) := by rw [← hwt]; exact heap_alloc_new wr _
    have hlt2 := lt_of_block htb
    have hg1 := (HGW.out.below hbt).more (t := wr.heap.size) (Nat.ne_of_lt (lt_of_block HGW.out.blk)) (fun hk => Nat.lt_irrefl _ (HGW.out.spi.blocks _ hk)) (fun e => Nat.lt_irrefl _ (HGW.out.opn.lt _ e).2)
    have hS1 : ∀ k, (S k ∨ k = wr.heap.size) → k < wt.heap.size := fun k hk => by
     rcases hk with h1 | h1
     ·exact Nat.lt_of_lt_of_le (HSL.out k h1) hbt.size
     ·omega
    have hfit := allS_fit HQ.out HTI.out
    have hinl : (innerK g.top g.opens.reverse).length ≤ 1000000 := by
     rw [inner_eq]
     have h1 := HOK.out.cnt
     have h2 := HOK.out.most
     obtain ⟨opens, top, nodes⟩ := g
     cases opens with
     | nil =>
      have h3 := cntL_len top
      show top.length ≤ _
      have h4 : cntL top + cntF [] = nodes := h1
      have h5 : nodes ≤ 4096 := h2
      omega
     | cons f fs =>
      have h3 := cntL_len f.kids
      show f.kids.length ≤ _
      have h4 : cntL top + (1 + f.attrs.length + cntL f.kids + cntF fs) = nodes := h1
      have h5 : nodes ≤ 4096 := h2
      omega
    have hbw0 := HBW.out
    have hat : AttIn wt (fun k => S k ∨ k = wr.heap.size) (.slice aa ats.length ac) ats := by
     have h1 := att_below (att_below HATT.out hbw0) hbt
     have h2 : AttIn wt (fun k => xv.ownBlock = some k) xv ats := h1
     have hav2 : xv = .slice aa ats.length ac := HAV.out
     have h3 := att_more h2 (fun k hk => (show S k ∨ k = wr.heap.size from .inl (HGW.out.old k (HXL.out k hk))))
     rw [hav2] at h3
     exact h3
    have hib : i * 262144 ≤ 1000000000000000000 := by
     have h5 := HM5.out
     have h6 : i < m := by omega
     omega
    have HTC := hid (take_calls hg1 hS1 (Nat.le_refl _) (by have := HOK.out.most; omega) hinl (((HE.out.below (below_then HB2.out hbw0)).below hbt).laid) kd at_ nme tx hat (by have := hfit.2.2; exact Nat.le_trans this (by decide)) (by have := hfit.2.1; exact Nat.le_trans this (by decide)) (fun n hn => Nat.le_trans (HTB.out.inner n (by rw [inner_eq] at hn; exact List.mem_of_getLast? hn)) hib))
    have HAG := hid hag
    obtain ⟨R, hR⟩ : ∃ R, g.takeS ⟨kd, at_, nme, tx, ats⟩ = R := ⟨_, rfl⟩
    rw [hR, hsn, hst] at HTC
    have HR := hid hR
    have HZ1 := hid ((cell_of_block htb 1).trans rfl : wt.cell? ⟨wr.heap.size, 1, none⟩ = some (.int .i64 (at_ : Int)))
    have t0 := (cell_of_block htb 0).trans rfl
    have t1 := (cell_of_block htb 1).trans rfl
    have t2 := (cell_of_block htb 2).trans rfl
    have t3 := (cell_of_block htb 3).trans rfl
    have t4 := (cell_of_block htb 4).trans rfl
    have HDT := hid (block_keep (block_keep HDB2.out (keeps_below hbw0 Non) (fun h => h)) (keeps_below hbt Non) (fun h => h))
    have HBT := hid hbt
    have HFIT := hid hfit
    have HFT4 := hid (fun W (hk : Keeps (fun q => ¬ (S q ∨ q = wr.heap.size)) wt W) => (HBW.out.trans (HBT.out.mono HBW.out.size)).trans (hk.toBelow (Nat.le_trans HBW.out.size HBT.out.size) (fun q hq => by
     by_cases h : q < w2.heap.size
     ·exact absurd (.inl (HGW.out.old q h)) hq
     ·omega)))
    clear hR hat hib hinl hfit hS1 hg1 hlt2 htb hbw0 hsn hst hbt
    go_wp2_with fail
    with_reducible refine HTC.out.mono ?_
    clear t0 t1 t2 t3 t4 hwt
    rintro e w4 ⟨hk4, hm4⟩
    have HB4 := hid (HFT4.out w4 hk4)
    cases R with
    | error cd =>
     have hm4' : e = .returned (.int .i64 (cd : Int)) := hm4
     subst hm4'
     have hc0 : cd ≠ 0 := takeS_err HR.out
     have hz : ((cd : Int) == 0) = false := by rw [beq_eq_false_iff_ne]; omega
     have z1 := cell_keep HZ1.out hk4 (fun h => h (.inr rfl))
     have hsz : w.heap.size < w2.heap.size := lt_of_block HDB2.out
     have HD4 := hid (block_keep HDT.out hk4 (fun h => h (.inl (HGW.out.old _ hsz))))
     have HWR := hid (wrong_calls cd at_ hc0 w4)
     have HC0 := hid hc0
     have HPS : Hid (parseS l = .error (cd, at_)) := hid (by
      unfold parseS
      rw [HQ.out]
      show (match growS ⟨[], [], 0⟩ ts with | .error e => Except.error e | .ok g => endS9 l.length g) = _
      rw [HGE.out, growS_stop HTI.out HR.out])
     clear hm4 hc0 hsz hk4
     unfold docZ docV at HWR
     go_wp2_with fail
     with_reducible refine HWR.out.mono ?_
     rintro e w5 ⟨ev, rfl, her, hb5⟩
     rcases her with ⟨h0, _⟩ | ⟨h0, eb, hev, e1, e2, e3⟩
     ·have := HC0.out
      omega
     subst hev
     have HD5 := hid (block_keep HD4.out (keeps_below hb5 Non) (fun h => h))
     have HE1 := hid (And.intro e1 e2)
     have hsz4 : w.heap.size < w4.heap.size := lt_of_block HD4.out
     have HEB := hid (show ¬ eb = w.heap.size ∧ w.heap.size ≤ eb by omega)
     have HB5 := hid (HB2.out.trans ((HB4.out.mono HB2.out.size).trans (hb5.mono (Nat.le_of_lt hsz4))))
     have k0 := (cell_of_block HD5.out 0).trans rfl
     have k1 := (cell_of_block HD5.out 1).trans rfl
     have k2 := (cell_of_block HD5.out 2).trans rfl
     have k3 := (cell_of_block HD5.out 3).trans rfl
     have k4 := (cell_of_block HD5.out 4).trans rfl
     have k5 := (cell_of_block HD5.out 5).trans rfl
     have k6 := (cell_of_block HD5.out 6).trans rfl
     have u0 := unfrozen_of_block HD5.out 0
     have u1 := unfrozen_of_block HD5.out 1
     have u2 := unfrozen_of_block HD5.out 2
     have u3 := unfrozen_of_block HD5.out 3
     have u4 := unfrozen_of_block HD5.out 4
     have u5 := unfrozen_of_block HD5.out 5
     have u6 := unfrozen_of_block HD5.out 6
     clear hb5 h0 e1 e2 e3 hsz4
     go_wp2_with fail
     rw [HPS.out]
     have hk7 := set7_keeps w5 w.heap.size (.slice none 0 0) (.int .i64 0) (.string ⟨#[]⟩) (.string ⟨#[]⟩) (.slice none 0 0) (.slice none 0 0) (.slice none 0 0)
     refine ret_doc (set7_heap HD5.out (.slice none 0 0) (.int .i64 0) (.string ⟨#[]⟩) (.string ⟨#[]⟩) (.slice none 0 0) (.slice none 0 0) (.slice none 0 0)) rfl rfl ⟨_, rfl, HC0.out, .inr ⟨by have := HC0.out; omega, eb, rfl, cell_keep HE1.out.1 hk7 HEB.out.1, cell_keep HE1.out.2 hk7 HEB.out.1, HEB.out.2⟩, ?_⟩
     exact HB5.out.trans (hk7.toBelow HB5.out.size (fun q hq => Nat.le_of_eq hq.symm))
    | ok g2 =>
     obtain ⟨he4, S2, v2, ov2, ps2, bs2, hg2, hs2, hss⟩ := hm4
     subst he4
     have HL2 := hid (show LoopP w2 w4 ts (i + 1) from ⟨g2, S2, v2, ov2, ps2, bs2, HGE.out.trans (growS_step HTI.out HR.out), hg2, hs2, HB4.out, HOK.out.take HFIT.out.1 HR.out, (takeS_texts HTB.out HR.out).mono (by
      have h1 := HFIT.out.2.1
      show i * 262144 + tx.length ≤ (i + 1) * 262144
      have h2 : tx.length ≤ 4 * 65536 := h1
      omega), takeS_atts HAG.out (allS_atts HQ.out HTI.out) HR.out⟩)
     clear hg2 hs2 hss hk4
     go_wp2_with fail
     go_roundg g36
     case measure => omega
     case rel => exact ⟨i + 1, by omega, rfl, HL2.out⟩
end Go.Proofs.YtjpkkflhcjjefaaGreatDoor
